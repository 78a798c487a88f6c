package pieces_test

import (
	"math"
	"math/big"
	"slices"
	"testing"

	"gauger/api"
	"gauger/configs"
	"gauger/pieces"
)

const (
	full  = math.MaxUint64
	least = math.MinInt
	most  = math.MaxInt
)

// piece tells the piece of the level with the index.
func piece(level int, index uint64) api.Piece {
	return api.Piece{Level: level, Index: index}
}

// wrongBits tells numbers that bits may not be.
func wrongBits() []int {
	all := configs.Nowhere()
	for _, f := range configs.Fields() {
		if f.Name == "Bits" {
			all = append(all, f.Wrong...)
		}
	}
	return all
}

// holdSpan holds Span of the piece against what is wanted.
func holdSpan(t *testing.T, bits int, p api.Piece, lo, hi uint64, ok bool) {
	t.Helper()
	if a, b, is := pieces.Span(bits, p); a != lo || b != hi || is != ok {
		t.Errorf("Span of %d bits of %v: %d, %d, %t, not %d, %d, %t", bits, p, a, b, is, lo, hi, ok)
	}
}

// holdHalves holds Halves of the piece against what is wanted.
func holdHalves(t *testing.T, bits int, p, left, right api.Piece, ok bool) {
	t.Helper()
	if a, b, is := pieces.Halves(bits, p); a != left || b != right || is != ok {
		t.Errorf("Halves of %d bits of %v: %v, %v, %t, not %v, %v, %t", bits, p, a, b, is, left, right, ok)
	}
}

// holdNone holds that there is no such piece.
func holdNone(t *testing.T, bits int, p api.Piece) {
	t.Helper()
	holdSpan(t, bits, p, 0, 0, false)
	holdHalves(t, bits, p, api.Piece{}, api.Piece{}, false)
}

func TestSpanNamed(t *testing.T) {
	for _, x := range []struct {
		bits   int
		p      api.Piece
		lo, hi uint64
	}{
		// Level 0: the first key, the last one, and one between.
		{3, piece(0, 0), 0, 0},
		{3, piece(0, 7), 7, 7},
		{3, piece(0, 6), 6, 6},
		// Between.
		{3, piece(1, 0), 0, 1},
		{3, piece(1, 2), 4, 5},
		{3, piece(1, 3), 6, 7},
		{3, piece(2, 0), 0, 3},
		{3, piece(2, 1), 4, 7},
		{10, piece(4, 5), 80, 95},
		// The level of bits.
		{3, piece(3, 0), 0, 7},
		{1, piece(1, 0), 0, 1},
		// The fewest bits, and the most.
		{1, piece(0, 0), 0, 0},
		{1, piece(0, 1), 1, 1},
		{59, piece(59, 0), 0, 1<<59 - 1},
		{59, piece(58, 0), 0, 1<<58 - 1},
		{59, piece(58, 1), 1 << 58, 1<<59 - 1},
		{59, piece(32, 1), 1 << 32, 1<<33 - 1},
		{59, piece(31, 1<<28-1), 1<<59 - 1<<31, 1<<59 - 1},
		{59, piece(1, 1<<58-1), 1<<59 - 2, 1<<59 - 1},
		{59, piece(0, 1<<59-1), 1<<59 - 1, 1<<59 - 1},
		{59, piece(0, 0), 0, 0},
		{58, piece(58, 0), 0, 1<<58 - 1},
	} {
		holdSpan(t, x.bits, x.p, x.lo, x.hi, true)
	}
}

func TestHalvesNamed(t *testing.T) {
	for _, x := range []struct {
		bits           int
		p, left, right api.Piece
	}{
		// Level 1.
		{3, piece(1, 0), piece(0, 0), piece(0, 1)},
		{3, piece(1, 2), piece(0, 4), piece(0, 5)},
		{3, piece(1, 3), piece(0, 6), piece(0, 7)},
		{59, piece(1, 1<<58-1), piece(0, 1<<59-2), piece(0, 1<<59-1)},
		// Between.
		{3, piece(2, 0), piece(1, 0), piece(1, 1)},
		{3, piece(2, 1), piece(1, 2), piece(1, 3)},
		{59, piece(31, 1<<28-1), piece(30, 1<<29-2), piece(30, 1<<29-1)},
		{59, piece(58, 1), piece(57, 2), piece(57, 3)},
		// All keys.
		{1, piece(1, 0), piece(0, 0), piece(0, 1)},
		{3, piece(3, 0), piece(2, 0), piece(2, 1)},
		{59, piece(59, 0), piece(58, 0), piece(58, 1)},
	} {
		holdHalves(t, x.bits, x.p, x.left, x.right, true)
	}
	// Level 0: pieces that are there, and have no halves.
	for _, x := range []struct {
		bits int
		key  uint64
	}{{1, 0}, {1, 1}, {3, 0}, {3, 5}, {3, 7}, {59, 0}, {59, 1 << 32}, {59, 1<<59 - 1}} {
		holdSpan(t, x.bits, piece(0, x.key), x.key, x.key, true)
		holdHalves(t, x.bits, piece(0, x.key), api.Piece{}, api.Piece{}, false)
	}
}

func TestNoSuchPieceNamed(t *testing.T) {
	for _, x := range []struct {
		bits int
		p    api.Piece
	}{
		// Bits below 1, and one beyond MaxBits.
		{0, piece(0, 0)}, {-1, piece(0, 0)}, {-1, piece(-1, 0)}, {least, piece(0, 0)}, {least, piece(least, 0)},
		{60, piece(0, 0)}, {60, piece(59, 0)}, {60, piece(60, 0)}, {63, piece(63, 0)}, {64, piece(64, 0)}, {64, piece(1, 0)}, {most, piece(most, 0)}, {most, piece(0, 0)},
		// A level below 0, and one beyond bits.
		{3, piece(-1, 0)}, {3, piece(-1, 15)}, {3, piece(-61, 0)}, {3, piece(least, 0)},
		{3, piece(4, 0)}, {1, piece(2, 0)}, {59, piece(60, 0)}, {59, piece(64, 0)}, {3, piece(most, 0)},
		// The first index that there is not: at level 0, at that of bits, and between.
		{3, piece(0, 8)}, {1, piece(0, 2)}, {59, piece(0, 1<<59)},
		{3, piece(3, 1)}, {1, piece(1, 1)}, {59, piece(59, 1)},
		{3, piece(1, 4)}, {3, piece(2, 2)}, {59, piece(31, 1<<28)}, {59, piece(58, 2)},
		// Such as would be 0, or one that there is, if it were cut off.
		{3, piece(0, 1<<63)}, {3, piece(1, 1<<63)}, {3, piece(1, 1<<63+1)}, {59, piece(32, 1<<32)}, {59, piece(59, 1<<32)}, {3, piece(2, full)}, {59, piece(0, full)},
	} {
		holdNone(t, x.bits, x.p)
	}
}

// spanOf tells by whole numbers the first and the last key of the piece.
func spanOf(p api.Piece) (lo, hi uint64) {
	size := new(big.Int).Exp(big.NewInt(2), big.NewInt(int64(p.Level)), nil)
	first := new(big.Int).Mul(new(big.Int).SetUint64(p.Index), size)
	behind := new(big.Int).Add(first, size)
	return first.Uint64(), behind.Sub(behind, big.NewInt(1)).Uint64()
}

// Each level of all bits: the first index, the last one, and some between.
func TestSpanAndHalvesOfAllLevels(t *testing.T) {
	for bits := 1; bits <= 59; bits++ {
		for _, level := range configs.Levels(bits) {
			for _, index := range configs.Within(configs.Count(bits, level)) {
				p := piece(level, index)
				lo, hi := spanOf(p)
				holdSpan(t, bits, p, lo, hi, true)
				if level == 0 {
					holdHalves(t, bits, p, api.Piece{}, api.Piece{}, false)
				} else {
					holdHalves(t, bits, p, piece(level-1, index+index), piece(level-1, index+index+1), true)
				}
			}
		}
	}
}

// What lies beyond on each level of all bits, and levels that they have not.
func TestNoSuchPieceOfAllLevels(t *testing.T) {
	for bits := 1; bits <= 59; bits++ {
		for _, level := range configs.Levels(bits) {
			for _, index := range append(configs.Outside(configs.Count(bits, level)), 1<<63+1, full-1) {
				holdNone(t, bits, piece(level, index))
			}
		}
		for _, level := range configs.Beyond(bits) {
			for _, index := range []uint64{0, 1, 1 << 32, 1 << 63, full} {
				holdNone(t, bits, piece(level, index))
			}
		}
	}
}

func TestWrongBits(t *testing.T) {
	if all := wrongBits(); !slices.Contains(all, 0) || !slices.Contains(all, 60) {
		t.Fatalf("bits are not tried at their limits: %v", all)
	}
	for _, bits := range wrongBits() {
		for _, level := range []int{0, 1, 3, 58, 59, 60, 63, 64, -1, bits - 1, bits, bits + 1, least, most} {
			for _, index := range []uint64{0, 1, 5, full} {
				holdNone(t, bits, piece(level, index))
			}
		}
	}
}

// From the piece of all keys on, halves lead to each piece just once, and each has the
// first or the second half of the keys.
func TestHalvesOfHalves(t *testing.T) {
	for bits := 1; bits <= 10; bits++ {
		seen, all := map[api.Piece]bool{}, []api.Piece{piece(bits, 0)}
		for len(all) > 0 {
			p := all[0]
			all = all[1:]
			if seen[p] {
				t.Errorf("of %d bits %v is there twice", bits, p)
			}
			seen[p] = true
			left, right, ok := pieces.Halves(bits, p)
			if ok != (p.Level > 0) {
				t.Errorf("%v of %d bits has halves: %t", p, bits, ok)
			}
			if !ok {
				continue
			}
			lo, hi, _ := pieces.Span(bits, p)
			holdSpan(t, bits, left, lo, (lo+hi)/2, true)
			holdSpan(t, bits, right, (lo+hi)/2+1, hi, true)
			all = append(all, left, right)
		}
		if len(seen) != 2<<bits-1 {
			t.Errorf("of %d bits there are %d pieces", bits, len(seen))
		}
	}
}
