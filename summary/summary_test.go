package summary_test

import (
	"math"
	"slices"
	"testing"

	"gauger/api"
	"gauger/configs"
	"gauger/levels"
	"gauger/quant"
	"gauger/stack"
	"gauger/stacks"
	"gauger/strewn"
	"gauger/summary"
)

const (
	lowest  = math.MinInt64
	highest = math.MaxInt64
	full    = math.MaxUint64
)

// lent is a list that is handed in, with room behind its end.
type lent[T comparable] struct {
	list, was []T
}

// lend tells a list of these, behind which stand two that are none of it.
func lend[T comparable](all []T, behind T) lent[T] {
	whole := append(slices.Clone(all), behind, behind)
	return lent[T]{whole[:len(all)], slices.Clone(whole)}
}

// holdStays holds that the list, and what stands behind it, are as they were.
func (l lent[T]) holdStays(t *testing.T) {
	t.Helper()
	if got := l.list[:len(l.was)]; !slices.Equal(got, l.was) {
		t.Errorf("what was handed in became %v, from %v", got, l.was)
	}
}

// holdQuantiles holds what Quantiles answers to the ranks, in their order and the other way
// round; the ranks stay.
func holdQuantiles(t *testing.T, s *stack.Stack, ks []int64, want ...uint64) {
	t.Helper()
	ks, want = slices.Clone(ks), slices.Clone(want)
	for range 2 {
		all := lend(ks, 77)
		if got, e := summary.Quantiles(s, all.list); !slices.Equal(got, want) || e != api.OK {
			t.Errorf("Quantiles of %v in %v: %v, %v, not %v", ks, s.Config(), got, e, want)
		}
		all.holdStays(t)
		slices.Reverse(ks)
		slices.Reverse(want)
	}
}

// holdNoQuantiles holds that nothing is told of the ranks but the error; the ranks stay.
func holdNoQuantiles(t *testing.T, s *stack.Stack, ks []int64, fails api.Errno) {
	t.Helper()
	all := lend(ks, 1)
	if got, e := summary.Quantiles(s, all.list); len(got) != 0 || e != fails {
		t.Errorf("Quantiles of %v in %v: %v, %v, not %v", ks, s.Config(), got, e, fails)
	}
	all.holdStays(t)
}

// The keys to which all ranks lead, of three bits, all levels of which are exact: each piece
// has another number, and no piece what its halves have.
func TestQuantilesNamed(t *testing.T) {
	cells := stacks.Cells{{1, 2, -3, 4, 5, 6, 7, 8}, {11, 12, 13, -14}, {21, 22}, {31}}
	for _, x := range []struct {
		name  string
		ks    []int64
		want  []uint64
		fails api.Errno
	}{
		{"none", nil, nil, api.OK},
		{"none, of a list that is empty", []int64{}, nil, api.OK},
		{"the first one", []int64{1}, []uint64{0}, api.OK},
		{"the last one", []int64{31}, []uint64{5}, api.OK},
		{"one between", []int64{21}, []uint64{3}, api.OK},
		{"rising", []int64{1, 2, 12, 22, 27}, []uint64{0, 1, 3, 4, 5}, api.OK},
		{"falling", []int64{31, 26, 21, 11, 1}, []uint64{5, 4, 3, 1, 0}, api.OK},
		{"neither", []int64{12, 1, 31, 11, 22}, []uint64{3, 0, 5, 1, 4}, api.OK},
		{"some of the same key", []int64{2, 11, 3, 12, 21}, []uint64{1, 1, 1, 3, 3}, api.OK},
		{"the same ones again", []int64{26, 26, 1, 26, 1}, []uint64{4, 4, 0, 4, 0}, api.OK},
		{"0", []int64{0}, nil, api.ErrRank},
		{"below 0", []int64{-1}, nil, api.ErrRank},
		{"the least number", []int64{lowest}, nil, api.ErrRank},
		{"one more than all have", []int64{32}, nil, api.ErrRank},
		{"the greatest number", []int64{highest}, nil, api.ErrRank},
		{"0 at the beginning", []int64{0, 1, 2}, nil, api.ErrRank},
		{"0 in the middle", []int64{1, 0, 2}, nil, api.ErrRank},
		{"0 at the end", []int64{1, 2, 0}, nil, api.ErrRank},
		{"one more than all have at the beginning", []int64{32, 31, 1}, nil, api.ErrRank},
		{"one more than all have in the middle", []int64{31, 32, 1}, nil, api.ErrRank},
		{"one more than all have at the end", []int64{1, 31, 32}, nil, api.ErrRank},
		{"below 0 twice", []int64{-5, 3, -5}, nil, api.ErrRank},
		{"none that there is", []int64{0, 32, -31, highest}, nil, api.ErrRank},
	} {
		t.Run(x.name, func(t *testing.T) {
			for _, mode := range configs.Modes() {
				c := api.Config{Bits: 3, Rows: 2, Width: 8, Mode: mode, Seed: 9}
				s := stacks.Filled(c, cells)
				if got, e := summary.Quantiles(s, x.ks); !slices.Equal(got, x.want) || e != x.fails {
					t.Errorf("Quantiles of %v: %v, %v, not %v, %v", x.ks, got, e, x.want, x.fails)
				}
				stacks.Hold(t, s, c, cells)
			}
		})
	}
}

// Without ranks there is no error either, whatever the stack has.
func TestNoRanks(t *testing.T) {
	for _, c := range stacks.All() {
		for _, n := range []int64{0, 1, -1, highest, lowest} {
			s := stacks.Filled(c, stacks.Full(c, n))
			holdQuantiles(t, s, nil)
			if n < 1 {
				holdNoQuantiles(t, s, []int64{1}, api.ErrRank)
				holdNoQuantiles(t, s, []int64{n}, api.ErrRank)
			}
		}
	}
}

// Of several errors the first one from the left is told: of a stack of which the rank 1
// leads to a key, all others that there are do not fit on the way, and some are not there.
func TestFirstOfTheErrors(t *testing.T) {
	for _, c := range stacks.All() {
		numbers := slices.Repeat([]int64{highest}, c.Bits+1)
		numbers[c.Bits-1] = 1 - highest
		cells := stacks.Each(c, numbers...)
		s, key := stacks.Filled(c, cells), configs.Last(c.Bits)/2+1
		holdQuantiles(t, s, []int64{1}, key)
		holdQuantiles(t, s, []int64{1, 1, 1}, key, key, key)
		for _, great := range []int64{2, 77, 1 << 62, highest - 1, highest} {
			for _, none := range []int64{0, -1, -highest, lowest} {
				for _, ks := range [][]int64{{great}, {great, 1}, {1, great}, {great, none}, {great, none, 1}, {1, great, none}, {1, 1, great, 1, none}, {great, great, none}} {
					holdNoQuantiles(t, s, ks, api.ErrOverflow)
				}
				for _, ks := range [][]int64{{none}, {none, 1}, {1, none}, {none, great}, {none, great, 1}, {1, none, great}, {1, 1, none, 1, great}, {none, none, great}} {
					holdNoQuantiles(t, s, ks, api.ErrRank)
				}
			}
		}
		stacks.Hold(t, s, c, cells)
	}
}

// tried tells stacks with strewn numbers, and some that were fed.
func tried(c api.Config, i int) []*stack.Stack {
	taken := levels.Taken(i, levels.At(c, 0))
	rises := levels.Rises(i+3, configs.Count(c.Bits, 0))
	return append(stacks.Rough(c, i), stacks.Fed(c, taken), stacks.Fed(c, rises), stacks.Fed(c, levels.Little(rises)))
}

// ranks tells ranks of a stack that has some, the first one and the last one among them, in
// no order.
func ranks(s *stack.Stack, i int) []int64 {
	total := s.Total()
	some := []int64{total, 1, total/2 + 1}
	for _, x := range strewn.Numbers(i + 6)[i:] {
		some = append(some, 1+int64(x%uint64(total)))
	}
	return some
}

// Of strewn numbers, as of those that were fed, in each mode, whichever levels are exact: to
// each rank is answered what is answered to it alone, as long as there is no error; whatever
// follows a rank that has one, that one is told.
func TestQuantilesOfAll(t *testing.T) {
	answers := stacks.Answers{}
	for i, c := range stacks.All() {
		for _, s := range tried(c, i) {
			if s.Total() < 1 {
				continue
			}
			before := stacks.Told(s)
			var good []int64
			var want []uint64
			for _, k := range append(ranks(s, i), 0, -s.Total()) {
				key, fails := quant.Quantile(s, k)
				answers.Add(c, fails)
				if fails == api.OK {
					good, want = append(good, k), append(want, key)
					continue
				}
				holdNoQuantiles(t, s, []int64{k}, fails)
				holdNoQuantiles(t, s, slices.Concat(good, []int64{k}), fails)
				holdNoQuantiles(t, s, slices.Concat(good, []int64{k}, good, []int64{1, 0, highest}), fails)
			}
			holdQuantiles(t, s, good, want...)
			holdQuantiles(t, s, slices.Concat(good, good), slices.Concat(want, want)...)
			stacks.Hold(t, s, c, before)
		}
	}
	answers.HoldMany(t, api.OK, 400, stacks.AllExact, stacks.SomeExact, stacks.OneExact)
	answers.HoldMany(t, api.ErrRank, 100, stacks.AllExact, stacks.SomeExact, stacks.OneExact)
	answers.HoldMany(t, api.ErrOverflow, 5, stacks.AllExact, stacks.SomeExact, stacks.OneExact)
}

// What was told is the caller's: it may be written over, and made longer, and stays when
// others are told, when the ranks are written over, and when the stack changes. It is told
// anew each time.
func TestQuantilesApart(t *testing.T) {
	for _, c := range stacks.All() {
		end := configs.Last(c.Bits)
		// What is told of no first half leads to the last key.
		before := stacks.Each(c, append(make([]int64, c.Bits), 9)...)
		s := stacks.Filled(c, before)
		ks, want := []int64{9, 1, 5}, []uint64{end, end, end}
		first, _ := summary.Quantiles(s, ks)
		second, _ := summary.Quantiles(s, ks)
		clear(first)
		_ = append(first[:1], 77, 77, 77)
		clear(ks)
		if !slices.Equal(second, want) {
			t.Errorf("what was told of %v became %v", c, second)
		}
		stacks.Hold(t, s, c, before)
		holdQuantiles(t, s, []int64{9, 1, 5}, want...)
		if !s.Load(c.Bits-1, stacks.Full(c, 9)[c.Bits-1]) {
			t.Errorf("level %d of %v is not loaded", c.Bits-1, c)
		}
		if got, e := summary.Quantiles(s, []int64{9, 1}); e != api.OK || slices.Contains(got, end) || !slices.Equal(second, want) {
			t.Errorf("of %v are told %v, %v, and %v", c, got, e, second)
		}
	}
}

// Each stack is asked for itself: of two that have the same config each tells its own.
func TestStacksApart(t *testing.T) {
	for _, mode := range configs.Modes() {
		for _, bits := range []int{1, 7, 8, 59} {
			c := api.Config{Bits: bits, Rows: 8, Width: 128, Mode: mode, Seed: 3}
			end := configs.Last(bits)
			one, other := stacks.Fed(c, []api.Update{{Key: end, Delta: 9}}), stacks.Fed(c, []api.Update{{Key: 0, Delta: 8}})
			for range 2 {
				holdQuantiles(t, one, []int64{8, 9, 1}, end, end, end)
				holdQuantiles(t, other, []int64{8, 7, 1}, 0, 0, 0)
				holdNoQuantiles(t, other, []int64{8, 9, 1}, api.ErrRank)
				holdHistogram(t, one, []uint64{1}, 0, 9)
				holdHistogram(t, other, []uint64{1}, 8, 0)
				hold(t, one, 8, 1+2*bits, single(end, 9))
				hold(t, other, 8, 1+2*bits, single(0, 8))
				hold(t, other, 9, 1)
			}
		}
	}
}
