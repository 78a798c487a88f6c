package summary_test

import (
	"slices"
	"testing"

	"gauger/api"
	"gauger/configs"
	"gauger/span"
	"gauger/stack"
	"gauger/stacks"
	"gauger/summary"
)

// holdHistogram holds what Histogram answers to the cuts; the cuts stay.
func holdHistogram(t *testing.T, s *stack.Stack, cuts []uint64, want ...int64) {
	t.Helper()
	all := lend(cuts, full)
	if got, e := summary.Histogram(s, all.list); !slices.Equal(got, want) || e != api.OK {
		t.Errorf("Histogram of %v in %v: %v, %v, not %v", cuts, s.Config(), got, e, want)
	}
	all.holdStays(t)
}

// holdNoHistogram holds that nothing is told of the cuts but the error; the cuts stay.
func holdNoHistogram(t *testing.T, s *stack.Stack, cuts []uint64, fails api.Errno) {
	t.Helper()
	all := lend(cuts, 1)
	if got, e := summary.Histogram(s, all.list); len(got) != 0 || e != fails {
		t.Errorf("Histogram of %v in %v: %v, %v, not %v", cuts, s.Config(), got, e, fails)
	}
	all.holdStays(t)
}

// Of three bits, all levels of which are exact: each piece has another number, and no piece
// what its halves have.
func TestHistogramNamed(t *testing.T) {
	cells := stacks.Cells{{1, 2, -3, 4, 5, 6, 7, 8}, {11, 12, 13, -14}, {21, 22}, {31}}
	for _, mode := range configs.Modes() {
		c := api.Config{Bits: 3, Rows: 2, Width: 8, Mode: mode, Seed: 9}
		s := stacks.Filled(c, cells)
		for _, x := range []struct {
			cuts []uint64
			want []int64
		}{
			{nil, []int64{31}},                                                // all keys
			{[]uint64{}, []int64{31}},                                         // all keys, by a list that is empty
			{[]uint64{4}, []int64{21, 22}},                                    // both halves
			{[]uint64{1}, []int64{1, 36}},                                     // the first key, and 2 12 22
			{[]uint64{7}, []int64{41, 8}},                                     // 21 13 7, and the last key
			{[]uint64{2}, []int64{11, 34}},                                    // one piece, and 12 22
			{[]uint64{5}, []int64{26, -8}},                                    // 21 5, and 6 -14
			{[]uint64{1, 7}, []int64{1, 34, 8}},                               // the first one, 2 12 13 7, and the last one
			{[]uint64{3, 4}, []int64{8, 4, 22}},                               // 11 -3, one key, and the second half
			{[]uint64{3, 6}, []int64{8, 17, -14}},                             // 11 -3, 4 13, and one piece
			{[]uint64{2, 4, 6}, []int64{11, 12, 13, -14}},                     // all pieces of level 1
			{[]uint64{6, 7}, []int64{34, 7, 8}},                               // 21 13, and the last two
			{[]uint64{1, 2}, []int64{1, 2, 34}},                               // the first two, and 12 22
			{[]uint64{1, 2, 3, 4, 5, 6, 7}, []int64{1, 2, -3, 4, 5, 6, 7, 8}}, // each key by itself
		} {
			holdHistogram(t, s, x.cuts, x.want...)
		}
		stacks.Hold(t, s, c, cells)
	}
}

func TestHistogramRefusedNamed(t *testing.T) {
	for _, x := range []struct {
		name  string
		bits  int
		cuts  []uint64
		fails api.Errno
	}{
		{"0 alone", 3, []uint64{0}, api.ErrKey},
		{"0 ahead of others", 3, []uint64{0, 1, 5}, api.ErrKey},
		{"0 ahead of one that is no key", 3, []uint64{0, 8}, api.ErrKey},
		{"the first one that is no key", 3, []uint64{8}, api.ErrKey},
		{"the first one that is no key, of one bit", 1, []uint64{2}, api.ErrKey},
		{"the first one that is no key, of the most bits", 59, []uint64{1 << 59}, api.ErrKey},
		{"the first one that is no key, behind the last key", 3, []uint64{1, 7, 8}, api.ErrKey},
		{"the first one that is no key, behind the last key of one bit", 1, []uint64{1, 2}, api.ErrKey},
		{"the first one that is no key, behind the last key of the most bits", 59, []uint64{1<<59 - 1, 1 << 59}, api.ErrKey},
		{"one that is no key", 3, []uint64{9}, api.ErrKey},
		{"two that are no keys", 3, []uint64{8, 9}, api.ErrKey},
		{"as great as may be", 3, []uint64{full}, api.ErrKey},
		{"as great as may be, of the most bits", 59, []uint64{5, full}, api.ErrKey},
		{"one that would be a key if it were cut off", 3, []uint64{1<<63 + 5}, api.ErrKey},
		{"one that would be a key if it were cut off in the middle", 3, []uint64{1<<32 + 5}, api.ErrKey},
		{"twice the same", 3, []uint64{3, 3}, api.ErrArg},
		{"twice the same, of one bit", 1, []uint64{1, 1}, api.ErrArg},
		{"twice the last key of the most bits", 59, []uint64{1<<59 - 1, 1<<59 - 1}, api.ErrArg},
		{"twice the same at the beginning", 3, []uint64{3, 3, 5, 6}, api.ErrArg},
		{"twice the same at the end", 3, []uint64{1, 3, 5, 5}, api.ErrArg},
		{"falling", 3, []uint64{4, 3}, api.ErrArg},
		{"falling all of the way", 3, []uint64{7, 6, 5, 4, 3, 2, 1}, api.ErrArg},
		{"falling by one in the middle", 3, []uint64{1, 4, 3, 6}, api.ErrArg},
		{"falling at the end", 3, []uint64{1, 4, 6, 5}, api.ErrArg},
		{"falling at the beginning", 3, []uint64{2, 1, 6, 7}, api.ErrArg},
		{"one again, behind another one", 3, []uint64{2, 5, 2}, api.ErrArg},
		{"falling, and as great as may be", 59, []uint64{full, full - 1}, api.ErrArg},
		{"twice as great as may be", 59, []uint64{full, full}, api.ErrArg},
		{"twice the first one that is no key", 3, []uint64{8, 8}, api.ErrArg},
		{"one that is no key, and falling to keys", 3, []uint64{9, 3}, api.ErrArg},
		{"one that is no key, and falling to the last key", 3, []uint64{8, 7}, api.ErrArg},
		{"falling, and one that is no key", 3, []uint64{4, 3, 8}, api.ErrArg},
		{"the same, and one that is no key", 3, []uint64{3, 3, full}, api.ErrArg},
		{"falling to 0", 3, []uint64{1, 0}, api.ErrArg},
		{"falling to 0 in the middle", 3, []uint64{1, 0, 2}, api.ErrArg},
		{"twice 0", 3, []uint64{0, 0}, api.ErrArg},
		{"0, and the same", 3, []uint64{0, 5, 5}, api.ErrArg},
		{"0, and falling", 3, []uint64{0, 5, 4}, api.ErrArg},
		{"0, falling, and one that is no key", 3, []uint64{0, 5, 4, 8}, api.ErrArg},
	} {
		t.Run(x.name, func(t *testing.T) {
			for _, mode := range configs.Modes() {
				for _, width := range []int{1, 2, 128} {
					c := api.Config{Bits: x.bits, Rows: 2, Width: width, Mode: mode, Seed: 7}
					// With the greatest number the sums would not fit either.
					for _, n := range []int64{0, 5, highest, lowest} {
						s := stacks.Filled(c, stacks.Full(c, n))
						holdNoHistogram(t, s, x.cuts, x.fails)
						stacks.Hold(t, s, c, stacks.Full(c, n))
					}
				}
			}
		})
	}
}

// Of each number of bits, the least and the greatest among them: cuts at the ends. Each
// level's keys have the level's number, and one more.
func TestCutsAtTheEnds(t *testing.T) {
	for bits := int64(1); bits <= api.MaxBits; bits++ {
		for _, mode := range configs.Modes() {
			for _, width := range []int{1, 2, 5, 128} {
				c := api.Config{Bits: int(bits), Rows: 3, Width: width, Mode: mode, Seed: uint64(bits)}
				var numbers []int64
				for n := range bits + 1 {
					numbers = append(numbers, n+1)
				}
				cells := stacks.Each(c, numbers...)
				s, count := stacks.Filled(c, cells), configs.Count(c.Bits, 0)
				// All keys but the first or the last one are a piece of each level but the
				// highest one.
				most := bits * (bits + 1) / 2
				holdHistogram(t, s, nil, bits+1)
				holdHistogram(t, s, []uint64{1}, 1, most)
				holdHistogram(t, s, []uint64{count - 1}, most, 1)
				holdHistogram(t, s, []uint64{count / 2}, bits, bits)
				if bits > 1 {
					holdHistogram(t, s, []uint64{1, count - 1}, 1, bits*(bits-1), 1)
					holdHistogram(t, s, []uint64{1, count / 2, count - 1}, 1, most-bits, most-bits, 1)
				}
				for _, beyond := range configs.Outside(count) {
					holdNoHistogram(t, s, []uint64{beyond}, api.ErrKey)
					holdNoHistogram(t, s, []uint64{count - 1, beyond}, api.ErrKey)
					holdNoHistogram(t, s, []uint64{0, beyond}, api.ErrKey)
					holdNoHistogram(t, s, []uint64{beyond, count - 1}, api.ErrArg)
				}
				holdNoHistogram(t, s, []uint64{0}, api.ErrKey)
				stacks.Hold(t, s, c, cells)
			}
		}
	}
}

// some tells rising cuts of the keys, more of them, if there are more.
func some(bits, i int) []uint64 {
	count := configs.Count(bits, 0)
	cuts := append(configs.Within(count), count/4, count/4*3, 1, uint64(i)%count, uint64(i+1)%count)
	slices.Sort(cuts)
	return slices.DeleteFunc(slices.Compact(cuts), func(cut uint64) bool { return cut == 0 })
}

// Whatever the stack has, and wherever it stands: a cut that is not above the one ahead of it
// comes ahead of one that is 0, or no key; and that ahead of a sum that does not fit.
func TestHistogramRefused(t *testing.T) {
	for i, c := range stacks.All() {
		count, cuts := configs.Count(c.Bits, 0), some(c.Bits, i)
		for _, n := range []int64{7, highest, lowest} {
			s := stacks.Filled(c, stacks.Full(c, n))
			beyond := configs.Outside(count)[i%7]
			holdNoHistogram(t, s, slices.Concat([]uint64{0}, cuts), api.ErrKey)
			holdNoHistogram(t, s, slices.Concat(cuts, []uint64{beyond}), api.ErrKey)
			holdNoHistogram(t, s, slices.Concat(cuts, []uint64{count}), api.ErrKey)
			for at, cut := range cuts {
				for _, low := range []uint64{cut, cut - 1, cut / 2, 0} {
					for _, more := range [][]uint64{nil, {count}, {beyond}} {
						holdNoHistogram(t, s, slices.Concat(cuts[:at+1], []uint64{low}, cuts[at+1:], more), api.ErrArg)
						holdNoHistogram(t, s, slices.Concat([]uint64{0}, cuts[:at+1], []uint64{low}, cuts[at+1:], more), api.ErrArg)
					}
				}
			}
			stacks.Hold(t, s, c, stacks.Full(c, n))
		}
	}
}

// All cells have the greatest number, or the least one: a span that is one piece fits, all
// others do not, be they the first one, the last one, or one between.
func TestSumsThatDoNotFit(t *testing.T) {
	for _, c := range stacks.All() {
		quarter := configs.Count(c.Bits, 0) / 4
		for _, n := range []int64{highest, lowest} {
			s := stacks.Filled(c, stacks.Full(c, n))
			holdHistogram(t, s, nil, n)
			if c.Bits < 2 {
				holdHistogram(t, s, []uint64{1}, n, n)
				continue
			}
			holdHistogram(t, s, []uint64{2 * quarter}, n, n)
			holdHistogram(t, s, []uint64{quarter, 2 * quarter}, n, n, n)
			holdHistogram(t, s, []uint64{quarter, 2 * quarter, 3 * quarter}, n, n, n, n)
			holdNoHistogram(t, s, []uint64{3 * quarter}, api.ErrOverflow)
			holdNoHistogram(t, s, []uint64{quarter}, api.ErrOverflow)
			holdNoHistogram(t, s, []uint64{quarter, 3 * quarter}, api.ErrOverflow)
			holdNoHistogram(t, s, []uint64{3 * quarter, 4 * quarter}, api.ErrKey)
			holdNoHistogram(t, s, []uint64{0, quarter}, api.ErrKey)
			holdNoHistogram(t, s, []uint64{quarter, quarter}, api.ErrArg)
			stacks.Hold(t, s, c, stacks.Full(c, n))
		}
	}
}

// Both halves of the second half come to just the greatest sum that fits, or the least one,
// and to one beyond; the first half is told what it is told.
func TestSumsAtTheEdge(t *testing.T) {
	for _, x := range []struct {
		low, high, sum int64
		fails          api.Errno
	}{
		{highest - 1, 1, highest, api.OK}, {highest, 1, 0, api.ErrOverflow}, {highest, 0, highest, api.OK}, {highest - 1, 2, 0, api.ErrOverflow},
		{lowest + 1, -1, lowest, api.OK}, {lowest, -1, 0, api.ErrOverflow}, {lowest, 0, lowest, api.OK}, {lowest + 1, -2, 0, api.ErrOverflow},
		{highest, lowest, -1, api.OK}, {lowest, lowest, 0, api.ErrOverflow}, {highest, highest, 0, api.ErrOverflow},
	} {
		for _, c := range stacks.All() {
			if c.Bits < 2 {
				continue
			}
			quarter := configs.Count(c.Bits, 0) / 4
			numbers := slices.Repeat([]int64{77}, c.Bits+1)
			numbers[c.Bits-2], numbers[c.Bits-1] = x.low, x.high
			s := stacks.Filled(c, stacks.Each(c, numbers...))
			if x.fails == api.OK {
				holdHistogram(t, s, []uint64{quarter}, x.low, x.sum)
				holdHistogram(t, s, []uint64{3 * quarter}, x.sum, x.low)
			} else {
				holdNoHistogram(t, s, []uint64{quarter}, x.fails)
				holdNoHistogram(t, s, []uint64{3 * quarter}, x.fails)
			}
			holdHistogram(t, s, []uint64{2 * quarter}, x.high, x.high)
			holdHistogram(t, s, nil, 77)
		}
	}
}

// ranges tells what is told of each span between the cuts by itself, or the first error.
func ranges(s *stack.Stack, cuts []uint64) ([]int64, api.Errno) {
	var all []int64
	ends := slices.Concat([]uint64{0}, cuts, []uint64{configs.Count(s.Config().Bits, 0)})
	for i, end := range ends[1:] {
		n, fails := span.Range(s, ends[i], end-1)
		if fails != api.OK {
			return nil, fails
		}
		all = append(all, n)
	}
	return all, api.OK
}

// Of strewn numbers, as of those that were fed, in each mode, whichever levels are exact: of
// each span is told what is told of it alone, or that one does not fit; of one cut, of some,
// and of many, and of each key by itself, if they are not too many.
func TestHistogramOfAll(t *testing.T) {
	answers := stacks.Answers{}
	for i, c := range stacks.All() {
		many := some(c.Bits, i)
		lists := [][]uint64{nil, many[:1], many[len(many)-1:], many[len(many)/3:], many}
		if c.Bits <= 8 {
			var each []uint64
			for key := range configs.Last(c.Bits) {
				each = append(each, key+1)
			}
			lists = append(lists, each)
		}
		for _, s := range tried(c, i) {
			before := stacks.Told(s)
			for _, cuts := range lists {
				want, fails := ranges(s, cuts)
				answers.Add(c, fails)
				if fails == api.OK {
					holdHistogram(t, s, cuts, want...)
				} else {
					holdNoHistogram(t, s, cuts, fails)
				}
			}
			stacks.Hold(t, s, c, before)
		}
	}
	answers.HoldMany(t, api.OK, 100, stacks.AllExact, stacks.SomeExact, stacks.OneExact)
	answers.HoldMany(t, api.ErrOverflow, 10, stacks.AllExact, stacks.SomeExact, stacks.OneExact)
}

// What was told is the caller's: it may be written over, and made longer, and stays when
// others are told, when the cuts are written over, and when the stack changes. It is told
// anew each time.
func TestHistogramApart(t *testing.T) {
	for i, c := range stacks.All() {
		s := stacks.Filled(c, stacks.Strewn(c, i, 8))
		before, cuts := stacks.Told(s), some(c.Bits, i)
		want, _ := ranges(s, cuts)
		handed := slices.Clone(cuts)
		first, _ := summary.Histogram(s, handed)
		second, _ := summary.Histogram(s, handed)
		clear(first)
		_ = append(first[:len(first)-1], 77)
		clear(handed)
		if !slices.Equal(second, want) {
			t.Errorf("what was told of %v became %v", c, second)
		}
		stacks.Hold(t, s, c, before)
		holdHistogram(t, s, cuts, want...)
		for n := range before {
			s.Load(n, stacks.Full(c, 5)[n])
		}
		if got, e := summary.Histogram(s, cuts); e != api.OK || slices.Equal(got, want) || !slices.Equal(second, want) {
			t.Errorf("of %v are told %v, %v, and %v", c, got, e, second)
		}
	}
}
