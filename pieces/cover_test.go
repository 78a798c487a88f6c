package pieces_test

import (
	"go/ast"
	"go/parser"
	"go/token"
	"slices"
	"testing"

	"gauger/api"
	"gauger/configs"
	"gauger/pieces"
)

// row tells the pieces that are given as level and index, one behind another.
func row(l ...uint64) []api.Piece {
	var all []api.Piece
	for pair := range slices.Chunk(l, 2) {
		all = append(all, piece(int(pair[0]), pair[1]))
	}
	return all
}

// holdCover holds Cover against the pieces that are wanted.
func holdCover(t *testing.T, bits int, lo, hi uint64, want []api.Piece) {
	t.Helper()
	if got, ok := pieces.Cover(bits, lo, hi); !slices.Equal(got, want) || !ok {
		t.Errorf("Cover of %d bits from %d to %d: %v, %t, not %v", bits, lo, hi, got, ok, want)
	}
}

// holdNoCover holds that there are not all keys from lo to hi.
func holdNoCover(t *testing.T, bits int, lo, hi uint64) {
	t.Helper()
	if got, ok := pieces.Cover(bits, lo, hi); len(got) != 0 || ok {
		t.Errorf("Cover of %d bits from %d to %d: %v, %t", bits, lo, hi, got, ok)
	}
}

func TestCoverNamed(t *testing.T) {
	for _, x := range []struct {
		name   string
		bits   int
		lo, hi uint64
		want   []api.Piece
	}{
		{"the chapter's example", 3, 1, 6, row(0, 1, 1, 1, 1, 2, 0, 6)},
		{"all keys", 3, 0, 7, row(3, 0)},
		{"all keys of one bit", 1, 0, 1, row(1, 0)},
		{"all keys of the most bits", 59, 0, 1<<59 - 1, row(59, 0)},
		{"all keys but the first", 3, 1, 7, row(0, 1, 1, 1, 2, 1)},
		{"all keys but the last", 3, 0, 6, row(2, 0, 1, 2, 0, 6)},
		{"the first key", 3, 0, 0, row(0, 0)},
		{"the last key", 3, 7, 7, row(0, 7)},
		{"the first key of one bit", 1, 0, 0, row(0, 0)},
		{"the last key of one bit", 1, 1, 1, row(0, 1)},
		{"the first key of the most bits", 59, 0, 0, row(0, 0)},
		{"the last key of the most bits", 59, 1<<59 - 1, 1<<59 - 1, row(0, 1<<59-1)},
		{"one key that is even", 3, 4, 4, row(0, 4)},
		{"one key that is odd", 3, 3, 3, row(0, 3)},
		{"the first half", 3, 0, 3, row(2, 0)},
		{"the second half", 3, 4, 7, row(2, 1)},
		{"halves of both halves", 3, 2, 5, row(1, 1, 1, 2)},
		{"two keys that are one piece", 3, 4, 5, row(1, 2)},
		{"two keys that are not", 3, 3, 4, row(0, 3, 0, 4)},
		{"three keys, the left one alone", 3, 3, 5, row(0, 3, 1, 2)},
		{"three keys, the right one alone", 3, 2, 4, row(1, 1, 0, 4)},
		{"four keys that are one piece", 4, 8, 11, row(2, 2)},
		{"rising levels, and falling ones", 4, 5, 14, row(0, 5, 1, 3, 2, 2, 1, 6, 0, 14)},
		{"falling levels", 4, 8, 14, row(2, 2, 1, 6, 0, 14)},
		{"rising levels", 4, 1, 7, row(0, 1, 1, 1, 2, 1)},
		{"a level left out on each side", 5, 3, 20, row(0, 3, 2, 1, 3, 1, 2, 4, 0, 20)},
		{"both keys in the middle of the most bits", 59, 1<<58 - 1, 1 << 58, row(0, 1<<58-1, 0, 1<<58)},
		{"beyond 32 bits", 59, 1<<32 - 1, 1 << 33, row(0, 1<<32-1, 32, 1, 0, 1<<33)},
	} {
		t.Run(x.name, func(t *testing.T) { holdCover(t, x.bits, x.lo, x.hi, x.want) })
	}
}

func TestNoCoverNamed(t *testing.T) {
	for _, x := range []struct {
		name   string
		bits   int
		lo, hi uint64
	}{
		{"lo just above hi", 3, 3, 2},
		{"lo above hi, at both ends", 3, 7, 0},
		{"lo above hi, of one bit", 1, 1, 0},
		{"lo above hi, of the most bits", 59, 1<<59 - 1, 1<<59 - 2},
		{"lo above hi, as far as may be", 59, full, 0},
		{"lo above hi, and just no key", 3, 8, 7},
		{"hi the first one that is no key", 3, 0, 8},
		{"hi the first one that is no key, of one bit", 1, 1, 2},
		{"hi the first one that is no key, of the most bits", 59, 0, 1 << 59},
		{"both the first one that is no key", 3, 8, 8},
		{"both the first one that is no key, of the most bits", 59, 1 << 59, 1 << 59},
		{"lo a key, and hi as great as may be", 59, 5, full},
		{"all numbers", 59, 0, full},
		{"both as great as may be", 3, full, full},
		{"hi that would be a key if it were cut off", 3, 0, 1<<63 + 5},
		{"no bits", 0, 0, 0},
		{"no bits, and two keys", 0, 0, 1},
		{"a bit below 0", -1, 0, 0},
		{"a bit too much", 60, 0, 0},
		{"a bit too much, and all its keys", 60, 0, 1<<60 - 1},
		{"as many bits as a number has", 64, 0, full},
		{"the least bits", least, 0, 0},
		{"the most bits", most, 0, 0},
	} {
		t.Run(x.name, func(t *testing.T) { holdNoCover(t, x.bits, x.lo, x.hi) })
	}
}

// has tells of how many of the pieces the number is a key.
func has(all []api.Piece, key uint64) int {
	count := 0
	for _, p := range all {
		if lo, hi := spanOf(p); lo <= key && key <= hi {
			count++
		}
	}
	return count
}

// Each key from lo to hi is in just one piece, and no other key in any: of all spans.
func TestKeysOfAllSpans(t *testing.T) {
	for bits := 1; bits <= 5; bits++ {
		count := configs.Count(bits, 0)
		for hi := range count {
			for lo := range hi + 1 {
				all, ok := pieces.Cover(bits, lo, hi)
				for key := range count {
					want := 0
					if lo <= key && key <= hi {
						want = 1
					}
					if got := has(all, key); got != want || !ok {
						t.Errorf("%d is in %d pieces of %v, %t, of %d bits from %d to %d", key, got, all, ok, bits, lo, hi)
					}
				}
			}
		}
	}
}

// fewest tells, for each key up to hi, how many pieces the keys from it to hi are at the
// least, and how many rows have so few: the first piece of a row has any of the levels,
// and the rest of the row is one that begins behind it.
func fewest(bits int, hi uint64) (least, rows []int) {
	least, rows = make([]int, hi+2), make([]int, hi+2)
	rows[hi+1] = 1
	for i := range hi + 1 {
		lo := hi - i
		for _, level := range configs.Levels(bits) {
			size := configs.Count(level, 0)
			behind := lo + size
			if lo%size != 0 || behind > hi+1 {
				continue
			}
			count := 1 + least[behind]
			switch {
			case least[lo] == 0 || count < least[lo]:
				least[lo], rows[lo] = count, rows[behind]
			case count == least[lo]:
				rows[lo] += rows[behind]
			}
		}
	}
	return least, rows
}

// holdRow holds that the pieces have just the keys from lo to hi, in order, and that at
// most two of them have the same level.
func holdRow(t *testing.T, bits int, lo, hi uint64, all []api.Piece) {
	t.Helper()
	next, levels := lo, map[int]int{}
	for _, p := range all {
		first, last := spanOf(p)
		if first != next || p.Level < 0 || p.Level > bits {
			t.Errorf("%v of %d bits from %d to %d: %v does not begin with %d", all, bits, lo, hi, p, next)
		}
		next = last + 1
		levels[p.Level]++
	}
	if next != hi+1 {
		t.Errorf("%v of %d bits from %d to %d does not end with %d", all, bits, lo, hi, hi)
	}
	for level, count := range levels {
		if count > 2 {
			t.Errorf("%v of %d bits from %d to %d has %d pieces of level %d", all, bits, lo, hi, count, level)
		}
	}
}

// The pieces are the fewest and in order, and there is just one such row: of all spans.
func TestFewestOfAllSpans(t *testing.T) {
	for bits := 1; bits <= 7; bits++ {
		for hi := range configs.Count(bits, 0) {
			least, rows := fewest(bits, hi)
			for lo := range hi + 1 {
				all, ok := pieces.Cover(bits, lo, hi)
				if !ok || len(all) != least[lo] {
					t.Errorf("Cover of %d bits from %d to %d: %v, %t, not of %d pieces", bits, lo, hi, all, ok, least[lo])
				}
				if rows[lo] != 1 {
					t.Errorf("of %d bits from %d to %d there are %d rows of %d pieces", bits, lo, hi, rows[lo], least[lo])
				}
				holdRow(t, bits, lo, hi, all)
			}
		}
	}
}

// parted tells the pieces that have just the keys from lo to hi which are the piece's, by
// another way than the package does: the piece is taken whole, or left out, or halved.
func parted(p api.Piece, lo, hi uint64) []api.Piece {
	first, last := spanOf(p)
	switch {
	case hi < first || last < lo:
		return nil
	case lo <= first && last <= hi:
		return []api.Piece{p}
	}
	left, right := piece(p.Level-1, p.Index+p.Index), piece(p.Level-1, p.Index+p.Index+1)
	return append(parted(left, lo, hi), parted(right, lo, hi)...)
}

// ends tells where spans of so many keys may begin and end: at both ends, in the middle,
// and between, each once, and in order.
func ends(count uint64) []uint64 {
	all := configs.Within(count)
	for _, near := range []uint64{0, count / 2, count / 4 * 3, count} {
		for _, key := range []uint64{near - 2, near - 1, near, near + 1, near + 2} {
			if key < count {
				all = append(all, key)
			}
		}
	}
	slices.Sort(all)
	return slices.Compact(all)
}

func TestCoverOfAllBits(t *testing.T) {
	for bits := 1; bits <= 59; bits++ {
		count := configs.Count(bits, 0)
		for _, hi := range ends(count) {
			for _, lo := range ends(count) {
				if lo > hi {
					holdNoCover(t, bits, lo, hi)
					continue
				}
				want := parted(piece(bits, 0), lo, hi)
				holdRow(t, bits, lo, hi, want)
				holdCover(t, bits, lo, hi, want)
			}
			for _, beyond := range configs.Outside(count) {
				holdNoCover(t, bits, hi, beyond)
				holdNoCover(t, bits, beyond, hi)
				holdNoCover(t, bits, beyond, beyond)
			}
		}
	}
}

func TestCoverOfWrongBits(t *testing.T) {
	for _, bits := range wrongBits() {
		for _, lo := range []uint64{0, 1, 7, 1 << 32, 1<<59 - 1, full} {
			for _, hi := range []uint64{0, 1, 7, 1 << 32, 1<<59 - 1, 1<<60 - 1, full} {
				holdNoCover(t, bits, lo, hi)
			}
		}
	}
}

// All keys but the first one are a piece of each level, and so are all but the last one;
// all but both are two of each level but the highest ones.
func TestAllKeysButTheEnds(t *testing.T) {
	for bits := 1; bits <= 59; bits++ {
		var rising, falling []api.Piece
		for level := range bits {
			rising = append(rising, piece(level, 1))
			falling = append(falling, piece(bits-1-level, configs.Count(level+1, 0)-2))
		}
		last := configs.Last(bits)
		holdCover(t, bits, 0, last, row(uint64(bits), 0))
		holdCover(t, bits, 1, last, rising)
		holdCover(t, bits, 0, last-1, falling)
		if bits > 1 {
			holdCover(t, bits, 1, last-1, slices.Concat(rising[:bits-1], falling[1:]))
		}
	}
}

// The span of each piece is covered by the piece alone, and those of both halves, put
// together, too.
func TestCoverOfOnePiece(t *testing.T) {
	for bits := 1; bits <= 59; bits++ {
		for _, level := range configs.Levels(bits) {
			for _, index := range configs.Within(configs.Count(bits, level)) {
				p := piece(level, index)
				lo, hi, _ := pieces.Span(bits, p)
				holdCover(t, bits, lo, hi, []api.Piece{p})
				if left, right, ok := pieces.Halves(bits, p); ok {
					_, end, _ := pieces.Span(bits, left)
					holdCover(t, bits, lo, end, []api.Piece{left})
					holdCover(t, bits, end+1, hi, []api.Piece{right})
				}
			}
		}
	}
}

// What was told is the caller's: it may be written over, and made longer.
func TestCoverIsOfItsOwn(t *testing.T) {
	want := row(0, 1, 1, 1, 1, 2, 0, 6)
	first, _ := pieces.Cover(3, 1, 6)
	second, _ := pieces.Cover(3, 1, 6)
	clear(first)
	_ = append(first[:2], piece(3, 0))
	if !slices.Equal(second, want) {
		t.Errorf("what Cover told became %v", second)
	}
	holdCover(t, 3, 1, 6, want)
}

// The chapter's section "Ways": the pieces of the right side are put behind by a closure
// that is deferred.
func TestWays(t *testing.T) {
	file, err := parser.ParseFile(token.NewFileSet(), "pieces.go", nil, 0)
	if err != nil {
		t.Fatal(err)
	}
	found := false
	ast.Inspect(file, func(n ast.Node) bool {
		if d, ok := n.(*ast.DeferStmt); ok {
			_, closure := d.Call.Fun.(*ast.FuncLit)
			found = found || closure
		}
		return true
	})
	if !found {
		t.Error("no closure is deferred")
	}
}
