package quant_test

import (
	"math"
	"math/big"
	"slices"
	"testing"

	"gauger/api"
	"gauger/configs"
	"gauger/levels"
	"gauger/pieces"
	"gauger/quant"
	"gauger/stack"
	"gauger/stacks"
	"gauger/strewn"
)

const (
	lowest  = math.MinInt64
	highest = math.MaxInt64
)

// wayTo tells the pieces of all levels in which the key lies, from the highest level on.
func wayTo(bits int, key uint64) []api.Piece {
	var way []api.Piece
	for _, n := range configs.Levels(bits) {
		way = append(way, api.Piece{Level: n, Index: configs.Above(key, n)})
	}
	slices.Reverse(way)
	return way
}

// hold holds that the rank leads to the key, and by which pieces.
func hold(t *testing.T, s *stack.Stack, k int64, key uint64) {
	t.Helper()
	if got, e := quant.Quantile(s, k); got != key || e != api.OK {
		t.Errorf("Quantile of %d in %v: %d, %v, not %d", k, s.Config(), got, e, key)
	}
	want := wayTo(s.Config().Bits, key)
	if got, e := quant.Way(s, k); !slices.Equal(got, want) || e != api.OK {
		t.Errorf("Way of %d in %v: %v, %v, not %v", k, s.Config(), got, e, want)
	}
}

// holdRefused holds that nothing is told of the rank but the error.
func holdRefused(t *testing.T, s *stack.Stack, k int64, fails api.Errno) {
	t.Helper()
	if got, e := quant.Quantile(s, k); got != 0 || e != fails {
		t.Errorf("Quantile of %d in %v: %d, %v, not %v", k, s.Config(), got, e, fails)
	}
	if got, e := quant.Way(s, k); len(got) != 0 || e != fails {
		t.Errorf("Way of %d in %v: %v, %v, not %v", k, s.Config(), got, e, fails)
	}
}

// holdNoRanks holds that there are no ranks below 1, nor above the total.
func holdNoRanks(t *testing.T, s *stack.Stack) {
	t.Helper()
	total := s.Total()
	for _, k := range []int64{0, -1, -77, lowest, lowest + 1} {
		holdRefused(t, s, k, api.ErrRank)
	}
	for _, k := range []int64{total + 1, total + 2, highest, highest - 1} {
		// Behind the greatest total that fits there is no rank, and those go round.
		if k > total {
			holdRefused(t, s, k, api.ErrRank)
		}
	}
	if total < 1 {
		holdRefused(t, s, 1, api.ErrRank)
		holdRefused(t, s, total, api.ErrRank)
	}
}

// Of three bits, all levels of which are exact: each piece has another number, and no
// piece what its halves have. Each rank that there is, and those beyond.
func TestNamed(t *testing.T) {
	cells := stacks.Cells{{1, 2, -3, 4, 5, 6, 7, 8}, {11, 12, 13, -14}, {21, 22}, {31}}
	for _, mode := range configs.Modes() {
		c := api.Config{Bits: 3, Rows: 2, Width: 8, Mode: mode, Seed: 9}
		s := stacks.Filled(c, cells)
		for _, x := range []struct {
			from, to int64
			key      uint64
		}{
			{1, 1, 0},   // by the first halves 21, 11, and 1
			{2, 11, 1},  // by 21 and 11, behind 1
			{12, 21, 3}, // by 21, behind 11 and -3
			{22, 26, 4}, // behind 21, by 13 and 5
			{27, 31, 5}, // behind 21, by 13, behind 5
		} {
			for k := x.from; k <= x.to; k++ {
				hold(t, s, k, x.key)
			}
		}
		holdNoRanks(t, s)
		stacks.Hold(t, s, c, cells)
	}
}

// The last first half on the way is told by cells that it shares, as its mode does it; the
// columns were reckoned apart from this program.
func TestSharedCells(t *testing.T) {
	tried, told := 0, []int64{5, 3, 9, 7, 4, 6, 8, 10}
	for _, x := range configs.Known() {
		if x.Level > 0 || x.Key%2 == 1 {
			continue
		}
		tried++
		c := x.Config
		// What is told of the halves ahead of these leads to both keys, whatever the rank.
		cells := stacks.Each(c, append(leading(c.Bits, x.Key, 100, 100), 100)...)
		clear(cells[0])
		for row, col := range x.Cols {
			cells[0][row*c.Width+col] = told[row]
		}
		numbers := slices.Sorted(slices.Values(told[:c.Rows]))
		n := numbers[0]
		if c.Mode == api.Median {
			n = numbers[(c.Rows-1)/2]
		}
		s := stacks.Filled(c, cells)
		for k := int64(1); k <= 100; k++ {
			if k <= n {
				hold(t, s, k, x.Key)
			} else {
				hold(t, s, k, x.Key+1)
			}
		}
		holdNoRanks(t, s)
		stacks.Hold(t, s, c, cells)
	}
	if tried < 6 {
		t.Errorf("only %d keys are tried", tried)
	}
}

// leading tells a number for each level but the highest one. If all keys of a level are
// told its number, the rank k leads to the key: each first half in which it lies is told
// just as much as the rank with which one comes to it, and each one behind which it lies so
// much that one of the rests is left, each level's by turns.
func leading(bits int, key uint64, k int64, rests ...int64) []int64 {
	numbers := make([]int64, bits)
	for level := bits - 1; level >= 0; level-- {
		numbers[level] = k
		if configs.Above(key, level)%2 == 1 {
			rest := rests[level%len(rests)]
			numbers[level] -= rest
			k = rest
		}
	}
	return numbers
}

// The first key, the last one, and some between, by ranks that are just what is told of
// the first halves, and just one more, or much more, the greatest number among it.
func TestToEachKey(t *testing.T) {
	for _, c := range stacks.All() {
		for i, key := range configs.Within(configs.Count(c.Bits, 0)) {
			for _, k := range []int64{1, 100, highest} {
				for _, rests := range [][]int64{{1}, {k}, {highest}, {1, highest}, {2, 77, 5}} {
					total := []int64{k, highest}[i%2]
					cells := stacks.Each(c, append(leading(c.Bits, key, k, rests...), total)...)
					s := stacks.Filled(c, cells)
					hold(t, s, k, key)
					if total < highest {
						holdRefused(t, s, k+1, api.ErrRank)
					}
				}
			}
		}
	}
}

// Of each number of bits, the least and the greatest among them: the way to the first key,
// to the last one, and to those beside them. Nothing is changed by asking.
func TestToTheEnds(t *testing.T) {
	for bits := 1; bits <= api.MaxBits; bits++ {
		for _, mode := range configs.Modes() {
			for _, width := range []int{1, 2, 5, 128} {
				c := api.Config{Bits: bits, Rows: 3, Width: width, Mode: mode, Seed: uint64(bits)}
				end := configs.Last(bits)
				for _, key := range []uint64{0, 1, end - 1, end} {
					cells := stacks.Each(c, append(leading(bits, key, 9, 4, 3), 9)...)
					s := stacks.Filled(c, cells)
					hold(t, s, 9, key)
					stacks.Hold(t, s, c, cells)
				}
			}
		}
	}
}

// The first half is told n: up to n the ranks lead to it, from one more on to the second
// half. All halves of these are told 0, or less, so the last key of both is told.
func TestBorderOfTheFirstHalf(t *testing.T) {
	for _, c := range stacks.All() {
		end := configs.Last(c.Bits)
		for _, n := range []int64{0, 1, 2, 77, 1 << 40, highest - 2, highest - 1, highest, -1, -77} {
			numbers := make([]int64, c.Bits+1)
			numbers[c.Bits-1], numbers[c.Bits] = n, highest
			cells := stacks.Each(c, numbers...)
			s := stacks.Filled(c, cells)
			for _, k := range []int64{1, 2, n - 1, n, n + 1, n + 2, highest + min(n, 0)} {
				if k < 1 {
					continue
				}
				// The first half of one bit is the first key.
				if k <= n && c.Bits > 1 {
					hold(t, s, k, end/2)
				} else if k <= n {
					hold(t, s, k, 0)
				} else {
					hold(t, s, k, end)
				}
			}
			stacks.Hold(t, s, c, cells)
		}
	}
}

// The total is the greatest number, the least one, 0, and others; each rank that there is
// leads to a key, the first one or the last one, or fails on the way.
func TestTotals(t *testing.T) {
	for _, c := range stacks.All() {
		for _, total := range []int64{highest, highest - 1, 1 << 40, 77, 2, 1, 0, -1, -77, lowest + 1, lowest} {
			for _, n := range []int64{0, highest, lowest} {
				numbers := slices.Repeat([]int64{n}, c.Bits)
				cells := stacks.Each(c, append(numbers, total)...)
				s := stacks.Filled(c, cells)
				holdNoRanks(t, s)
				for _, k := range []int64{1, 2, total / 2, total - 1, total} {
					switch {
					case k < 1 || k > total:
						holdRefused(t, s, k, api.ErrRank)
					case n == 0:
						hold(t, s, k, configs.Last(c.Bits))
					case n == highest:
						hold(t, s, k, 0)
					default:
						holdRefused(t, s, k, api.ErrOverflow)
					}
				}
				stacks.Hold(t, s, c, cells)
			}
		}
	}
}

// At each level the first half is told so much less than 0 that what is left of the rank is
// just the greatest number that fits, and one more, and much more; be the level the first
// one on the way, the last one, or one between.
func TestRestsAtTheEdge(t *testing.T) {
	for i, c := range stacks.All() {
		for level := i % 3 % c.Bits; level < c.Bits; level += 1 + c.Bits/9 {
			rests := slices.Repeat([]int64{5, 1}, c.Bits)[:c.Bits]
			rests[level] = highest
			for _, key := range configs.Within(configs.Count(c.Bits, 0)) {
				// The key that lies in the second half at this level, and as the other one
				// at all others.
				key |= 1 << level
				numbers := append(leading(c.Bits, key, 3, rests...), 3)
				s := stacks.Filled(c, stacks.Each(c, numbers...))
				hold(t, s, 3, key)
				for _, n := range []int64{numbers[level] - 1, numbers[level] - 2, lowest + 1, lowest} {
					numbers[level] = n
					cells := stacks.Each(c, numbers...)
					s = stacks.Filled(c, cells)
					holdRefused(t, s, 3, api.ErrOverflow)
					// A rank that is not there comes first.
					holdNoRanks(t, s)
					stacks.Hold(t, s, c, cells)
				}
			}
		}
	}
}

// Of one bit alone the rest leads to no further half, and has to fit all the same.
func TestLastRest(t *testing.T) {
	for _, mode := range configs.Modes() {
		for _, width := range []int{1, 2, 128} {
			c := api.Config{Bits: 1, Rows: 2, Width: width, Mode: mode, Seed: 7}
			for _, x := range []struct {
				k, n  int64
				key   uint64
				fails api.Errno
			}{
				{1, 1, 0, api.OK}, {1, 2, 0, api.OK}, {1, 0, 1, api.OK}, {2, 1, 1, api.OK}, {1, -1, 1, api.OK},
				{1, -highest + 1, 1, api.OK}, {1, -highest, 0, api.ErrOverflow}, {1, lowest, 0, api.ErrOverflow},
				{2, -highest + 2, 1, api.OK}, {2, -highest + 1, 0, api.ErrOverflow},
				{highest, 0, 1, api.OK}, {highest, -1, 0, api.ErrOverflow}, {highest, lowest, 0, api.ErrOverflow},
				{highest - 1, -1, 1, api.OK}, {highest - 1, -2, 0, api.ErrOverflow},
				{highest, highest, 0, api.OK}, {highest, highest - 1, 1, api.OK}, {highest - 1, highest, 0, api.OK},
			} {
				s := stacks.Filled(c, stacks.Each(c, x.n, highest))
				if x.fails == api.OK {
					hold(t, s, x.k, x.key)
				} else {
					holdRefused(t, s, x.k, x.fails)
				}
			}
		}
	}
}

// stop is a piece on a way, the rank with which one comes to it, and, if it is not of level
// 0, what is told of its first half.
type stop struct {
	p    api.Piece
	k, n int64
}

// reckoned tells, by whole numbers and by halving the span of all keys, where the rank
// leads one, and what the call fails with, if it does.
func reckoned(t *testing.T, s *stack.Stack, k int64) ([]stop, api.Errno) {
	t.Helper()
	if k < 1 || k > s.Total() {
		return nil, api.ErrRank
	}
	var way []stop
	rest, first, size := big.NewInt(k), uint64(0), configs.Count(s.Config().Bits, 0)
	for level := s.Config().Bits; ; level-- {
		if !rest.IsInt64() {
			return nil, api.ErrOverflow
		}
		at := stop{p: api.Piece{Level: level, Index: first / size}, k: rest.Int64()}
		if level == 0 {
			return append(way, at), api.OK
		}
		size /= 2
		n, e := s.Point(api.Piece{Level: level - 1, Index: first / size})
		if e != api.OK {
			t.Fatalf("Point of the %d keys from %d on in %v: %v", size, first, s.Config(), e)
		}
		at.n = n
		way = append(way, at)
		if rest.Cmp(big.NewInt(n)) > 0 {
			rest.Sub(rest, big.NewInt(n))
			first += size
		}
	}
}

// ranks tells ranks of a stack: the first one and the last one, some between, and for each
// piece to which these lead the last rank that leads to its first half, and the first one
// that leads to the second one, if there are such ranks.
func ranks(t *testing.T, s *stack.Stack) []int64 {
	t.Helper()
	total := s.Total()
	if total < 1 {
		return nil
	}
	some := []int64{1, total, total / 2}
	for _, n := range strewn.Numbers(3) {
		some = append(some, 1+int64(n%uint64(total)))
	}
	for _, k := range slices.Clone(some) {
		way, _ := reckoned(t, s, k)
		for _, at := range way {
			// As much as is taken from k ahead of the piece is taken from all ranks that lead
			// to it.
			border := new(big.Int).Sub(big.NewInt(k), big.NewInt(at.k))
			border.Add(border, big.NewInt(at.n))
			if border.IsInt64() {
				some = append(some, border.Int64(), border.Int64()+1)
			}
		}
	}
	slices.Sort(some)
	return slices.DeleteFunc(slices.Compact(some), func(k int64) bool { return k < 1 || k > total })
}

// filled tells stacks of the config with strewn numbers, so that a piece has not what its
// halves have; with much, with little, and with the greatest total. There are numbers below
// 0 at some levels; in the last stacks at all.
func filled(c api.Config, i int) []*stack.Stack {
	var all []*stack.Stack
	for j, shift := range []uint{1, 4, 57, 0, 0, 0} {
		cells := stacks.Strewn(c, i+j, shift)
		for level, l := range cells {
			for at, n := range l {
				if j < 4 && (i+j+level)%4 > 0 {
					l[at] = max(n, -n)
				}
			}
		}
		cells[c.Bits][0] = []int64{cells[c.Bits][0], 1 << 60, 50, highest, highest, highest - 1}[j]
		all = append(all, stacks.Filled(c, cells))
	}
	return all
}

// Of strewn numbers, as of those that were fed, in each mode, whichever levels are exact:
// each rank leads where whole numbers and spans of keys lead it, or fails as they do.
func TestOfAll(t *testing.T) {
	answers := stacks.Answers{}
	for i, c := range stacks.All() {
		for _, s := range append(filled(c, i), stacks.Fed(c, levels.Taken(i, levels.At(c, 0)))) {
			before := stacks.Told(s)
			for _, k := range ranks(t, s) {
				way, fails := reckoned(t, s, k)
				if fails == api.OK {
					hold(t, s, k, way[c.Bits].p.Index)
				} else {
					holdRefused(t, s, k, fails)
				}
				answers.Add(c, fails)
			}
			holdNoRanks(t, s)
			stacks.Hold(t, s, c, before)
		}
	}
	answers.HoldMany(t, api.OK, 400, stacks.AllExact, stacks.SomeExact, stacks.OneExact)
	answers.HoldMany(t, api.ErrOverflow, 40, stacks.AllExact, stacks.SomeExact, stacks.OneExact)
}

// The way begins with the piece of all keys, and ends with that of Quantile's answer; each
// piece is a half of the one ahead of it; there are as many as levels.
func TestWayOfHalves(t *testing.T) {
	firsts, seconds := 0, 0
	for i, c := range stacks.All() {
		for _, s := range filled(c, i) {
			for _, k := range ranks(t, s) {
				way, e := quant.Way(s, k)
				key, fails := quant.Quantile(s, k)
				if e != fails || e != api.OK && len(way) > 0 {
					t.Errorf("Way of %d in %v: %v, %v, and Quantile: %v", k, c, way, e, fails)
				}
				if e != api.OK {
					continue
				}
				if len(way) != c.Bits+1 || way[0] != (api.Piece{Level: c.Bits}) || way[c.Bits] != (api.Piece{Index: key}) {
					t.Fatalf("Way of %d in %v: %v, which leads to %d", k, c, way, key)
				}
				for j, p := range way[1:] {
					left, right, ok := pieces.Halves(c.Bits, way[j])
					if !ok || p != left && p != right {
						t.Errorf("Way of %d in %v: %v is no half of %v", k, c, p, way[j])
					}
					if p == left {
						firsts++
					} else {
						seconds++
					}
				}
			}
		}
	}
	if firsts < 10000 || seconds < 10000 {
		t.Errorf("only %d first halves, and %d second ones", firsts, seconds)
	}
}

// What was told is the caller's: it may be written over, and made longer, and stays when
// others are told, and when the stack changes. It is told anew each time.
func TestWayApart(t *testing.T) {
	for _, c := range stacks.All() {
		key := configs.Last(c.Bits) / 3
		numbers := append(leading(c.Bits, key, 9, 4, 3), 9)
		cells := stacks.Each(c, numbers...)
		s, want := stacks.Filled(c, cells), wayTo(c.Bits, key)
		first, _ := quant.Way(s, 9)
		second, _ := quant.Way(s, 9)
		holdStays := func() {
			t.Helper()
			if !slices.Equal(second, want) {
				t.Errorf("what was told of %v became %v", c, second)
			}
		}
		clear(first)
		_ = append(first[:len(first)-1], api.Piece{Level: 77})
		holdStays()
		stacks.Hold(t, s, c, cells)
		hold(t, s, 9, key)
		end := configs.Last(c.Bits)
		hold(t, stacks.Filled(c, stacks.Each(c, append(leading(c.Bits, end, 9, 4), 9)...)), 9, end)
		holdStays()
		if !s.Load(c.Bits-1, stacks.Full(c, highest)[c.Bits-1]) {
			t.Errorf("level %d of %v is not loaded", c.Bits-1, c)
		}
		holdStays()
	}
}

// Each stack is asked for itself: of two that have the same config each tells its own.
func TestStacksApart(t *testing.T) {
	for _, c := range stacks.All() {
		end := configs.Last(c.Bits)
		one := stacks.Filled(c, stacks.Each(c, append(leading(c.Bits, end, 9, 4), 9)...))
		other := stacks.Filled(c, stacks.Each(c, append(leading(c.Bits, end/2, 8, 5), 8)...))
		hold(t, one, 9, end)
		hold(t, other, 8, end/2)
		holdRefused(t, other, 9, api.ErrRank)
		hold(t, one, 9, end)
	}
}
