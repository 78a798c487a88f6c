package span_test

import (
	"math"
	"math/big"
	"slices"
	"testing"

	"gauger/api"
	"gauger/configs"
	"gauger/levels"
	"gauger/pieces"
	"gauger/span"
	"gauger/stack"
	"gauger/stacks"
)

const (
	lowest  = math.MinInt64
	highest = math.MaxInt64
	full    = math.MaxUint64
)

// sum tells by whole numbers what Range answers, if these are the parts.
func sum(parts []int64) (int64, api.Errno) {
	whole := new(big.Int)
	for _, n := range parts {
		whole.Add(whole, big.NewInt(n))
	}
	if !whole.IsInt64() {
		return 0, api.ErrOverflow
	}
	return whole.Int64(), api.OK
}

// holdSum holds what Range answers, and Rank, if the span begins with the first key.
func holdSum(t *testing.T, s *stack.Stack, lo, hi uint64, want int64, fails api.Errno) {
	t.Helper()
	if n, e := span.Range(s, lo, hi); n != want || e != fails {
		t.Errorf("Range of %v from %d to %d: %d, %v, not %d, %v", s.Config(), lo, hi, n, e, want, fails)
	}
	if lo > 0 {
		return
	}
	if n, e := span.Rank(s, hi); n != want || e != fails {
		t.Errorf("Rank of %v to %d: %d, %v, not %d, %v", s.Config(), hi, n, e, want, fails)
	}
}

// hold holds all that is told of a span of keys that are there against its parts.
func hold(t *testing.T, s *stack.Stack, lo, hi uint64, parts ...int64) {
	t.Helper()
	if got, e := span.Parts(s, lo, hi); !slices.Equal(got, parts) || e != api.OK {
		t.Errorf("Parts of %v from %d to %d: %v, %v, not %v", s.Config(), lo, hi, got, e, parts)
	}
	want, fails := sum(parts)
	holdSum(t, s, lo, hi, want, fails)
}

// holdRefused holds that nothing is told of a span but the error.
func holdRefused(t *testing.T, s *stack.Stack, lo, hi uint64, fails api.Errno) {
	t.Helper()
	if got, e := span.Parts(s, lo, hi); len(got) != 0 || e != fails {
		t.Errorf("Parts of %v from %d to %d: %v, %v, not %v", s.Config(), lo, hi, got, e, fails)
	}
	holdSum(t, s, lo, hi, 0, fails)
}

// rising tells the numbers from the one to the other.
func rising(from, to int64) []int64 {
	var numbers []int64
	for n := from; n <= to; n++ {
		numbers = append(numbers, n)
	}
	return numbers
}

// falling tells the numbers from the one down to the other.
func falling(from, to int64) []int64 {
	numbers := rising(to, from)
	slices.Reverse(numbers)
	return numbers
}

// Of three bits, all levels of which are exact: each piece has another number, and no
// piece what its halves have.
func TestPartsNamed(t *testing.T) {
	cells := stacks.Cells{{1, 2, -3, 4, 5, 6, 7, 8}, {11, 12, 13, -14}, {21, 22}, {31}}
	for _, mode := range configs.Modes() {
		c := api.Config{Bits: 3, Rows: 2, Width: 8, Mode: mode, Seed: 9}
		s := stacks.Filled(c, cells)
		for _, x := range []struct {
			lo, hi uint64
			parts  []int64
		}{
			{0, 7, []int64{31}},           // all keys
			{1, 7, []int64{2, 12, 22}},    // all but the first one
			{0, 6, []int64{21, 13, 7}},    // all but the last one
			{1, 6, []int64{2, 12, 13, 7}}, // all but both
			{0, 0, []int64{1}},            // the first one alone
			{7, 7, []int64{8}},            // the last one alone
			{2, 2, []int64{-3}},           // one that is even
			{5, 5, []int64{6}},            // one that is odd
			{0, 1, []int64{11}},           // two that are one piece
			{6, 7, []int64{-14}},          // the last two of these
			{3, 4, []int64{4, 5}},         // two that are not
			{0, 2, []int64{11, -3}},       // the right one alone
			{5, 7, []int64{6, -14}},       // the left one alone
			{0, 3, []int64{21}},           // the first half
			{4, 7, []int64{22}},           // the second half
			{2, 5, []int64{12, 13}},       // halves of both halves
			{3, 7, []int64{4, 22}},        // a level left out
			{0, 4, []int64{21, 5}},        // a level left out on the other side
			{1, 5, []int64{2, 12, 13}},    // two of one level
			{3, 6, []int64{4, 13, 7}},     // rising and falling
			{1, 4, []int64{2, 12, 5}},     // rising and falling by more
			{0, 5, []int64{21, 13}},       // falling
			{2, 7, []int64{12, 22}},       // rising
		} {
			hold(t, s, x.lo, x.hi, x.parts...)
		}
		stacks.Hold(t, s, c, cells)
	}
}

// Of three bits and two columns, so that the levels 2 and 3 are exact alone: by chapter 7
// the columns of the key 6 are 0 0 at level 0, and those of the key 3 are 1 0 at level 1.
func TestPartsOfSharedCells(t *testing.T) {
	cells := stacks.Cells{{8, 1, 3, 2}, {2, 9, 4, 1}, {-5, 6}, {11}}
	for _, mode := range configs.Modes() {
		c := api.Config{Bits: 3, Rows: 2, Width: 2, Mode: mode, Seed: 7}
		s := stacks.Filled(c, cells)
		hold(t, s, 6, 6, 3)
		hold(t, s, 6, 7, 4)
		hold(t, s, 4, 7, 6)
		hold(t, s, 0, 3, -5)
		hold(t, s, 0, 7, 11)
		stacks.Hold(t, s, c, cells)
	}
}

// Of each number of bits, the least and the greatest among them: all keys, all but the
// first or the last one, and one at each end. Each level's keys have the level's number.
func TestPartsOfTheEnds(t *testing.T) {
	for bits := int64(1); bits <= api.MaxBits; bits++ {
		for _, mode := range configs.Modes() {
			for _, width := range []int{1, 2, 5, 128} {
				c := api.Config{Bits: int(bits), Rows: 3, Width: width, Mode: mode, Seed: uint64(bits)}
				cells := stacks.Each(c, rising(0, bits)...)
				s, end := stacks.Filled(c, cells), configs.Last(c.Bits)
				hold(t, s, 0, end, bits)
				hold(t, s, 1, end, rising(0, bits-1)...)
				hold(t, s, 0, end-1, falling(bits-1, 0)...)
				hold(t, s, 0, 0, 0)
				hold(t, s, end, end, 0)
				hold(t, s, 0, end/2, bits-1)
				hold(t, s, end/2+1, end, bits-1)
				if bits > 1 {
					hold(t, s, 1, end-1, slices.Concat(rising(0, bits-2), falling(bits-2, 0))...)
					hold(t, s, 0, 1, 1)
					hold(t, s, end-1, end, 1)
				}
				stacks.Hold(t, s, c, cells)
			}
		}
	}
}

// A span has just as many parts as pieces, each what the stack tells of that piece, in the
// order of the pieces; the numbers of each level are strewn, so that no piece has what its
// halves have.
func TestPartsOfAllSpans(t *testing.T) {
	answers := map[api.Errno]int{}
	for i, c := range stacks.All() {
		cells := stacks.Strewn(c, i, uint(i%4))
		s := stacks.Filled(c, cells)
		for _, x := range spans(c.Bits) {
			parts := points(t, s, x)
			hold(t, s, x.lo, x.hi, parts...)
			_, fails := sum(parts)
			answers[fails]++
		}
		stacks.Hold(t, s, c, cells)
	}
	if len(answers) != 2 || answers[api.OK] < 5000 || answers[api.ErrOverflow] < 5000 {
		t.Errorf("too few of some answers: %v", answers)
	}
}

// keys are those from lo to hi.
type keys struct {
	lo, hi uint64
}

// spans tells all spans of few keys; of many those between the ends, the middle, and some
// others.
func spans(bits int) []keys {
	count := configs.Count(bits, 0)
	var ends []uint64
	if count <= 64 {
		for key := range count {
			ends = append(ends, key)
		}
	} else {
		ends = append(configs.Within(count), 1, 2, count/2-1, count/4*3, count-3, count-2)
	}
	slices.Sort(ends)
	ends = slices.Compact(ends)
	var some []keys
	for i, lo := range ends {
		for _, hi := range ends[i:] {
			some = append(some, keys{lo, hi})
		}
	}
	return some
}

// points tells what the stack tells of each piece of the span, one by one.
func points(t *testing.T, s *stack.Stack, x keys) []int64 {
	t.Helper()
	cover, ok := pieces.Cover(s.Config().Bits, x.lo, x.hi)
	if !ok {
		t.Fatalf("there are no pieces of %v from %d to %d", s.Config(), x.lo, x.hi)
	}
	var parts []int64
	for _, p := range cover {
		n, e := s.Point(p)
		if e != api.OK {
			t.Fatalf("Point of %v in %v: %v", p, s.Config(), e)
		}
		parts = append(parts, n)
	}
	return parts
}

func TestRefusedNamed(t *testing.T) {
	for _, x := range []struct {
		name   string
		bits   int
		lo, hi uint64
		fails  api.Errno
	}{
		{"lo just above hi", 3, 3, 2, api.ErrArg},
		{"lo above hi, at both ends", 3, 7, 0, api.ErrArg},
		{"lo above hi, of one bit", 1, 1, 0, api.ErrArg},
		{"lo above hi, of the most bits", 59, 1<<59 - 1, 1<<59 - 2, api.ErrArg},
		{"lo no key, and above hi, which is the last key", 3, 8, 7, api.ErrArg},
		{"lo no key, and above hi, which is the first key", 3, 8, 0, api.ErrArg},
		{"lo as great as may be, and above hi, which is a key", 59, full, 0, api.ErrArg},
		{"lo above hi, which is the first one that is no key", 3, 9, 8, api.ErrArg},
		{"lo above hi, which is no key of one bit", 1, 3, 2, api.ErrArg},
		{"lo above hi, which is no key of the most bits", 59, 1<<59 + 1, 1 << 59, api.ErrArg},
		{"lo above hi, both far beyond", 59, full, full - 1, api.ErrArg},
		{"hi the first one that is no key", 3, 0, 8, api.ErrKey},
		{"hi the first one that is no key, of one bit", 1, 0, 2, api.ErrKey},
		{"hi the first one that is no key, of the most bits", 59, 0, 1 << 59, api.ErrKey},
		{"lo the last key, and hi no key", 3, 7, 8, api.ErrKey},
		{"both the first one that is no key", 3, 8, 8, api.ErrKey},
		{"both the first one that is no key, of the most bits", 59, 1 << 59, 1 << 59, api.ErrKey},
		{"hi far beyond", 3, 2, 1 << 40, api.ErrKey},
		{"hi as great as may be", 59, 5, full, api.ErrKey},
		{"all numbers", 3, 0, full, api.ErrKey},
		{"both as great as may be", 3, full, full, api.ErrKey},
		{"hi that would be a key if it were cut off", 3, 0, 1<<63 + 5, api.ErrKey},
		{"hi that would be a key if it were cut off in the middle", 3, 0, 1<<32 + 5, api.ErrKey},
		{"both that would be keys if they were cut off", 3, 1<<63 + 2, 1<<63 + 5, api.ErrKey},
	} {
		t.Run(x.name, func(t *testing.T) {
			for _, mode := range configs.Modes() {
				for _, width := range []int{1, 2, 128} {
					c := api.Config{Bits: x.bits, Rows: 2, Width: width, Mode: mode, Seed: 7}
					for _, n := range []int64{0, 5, highest, lowest} {
						s := stacks.Filled(c, stacks.Full(c, n))
						holdRefused(t, s, x.lo, x.hi, x.fails)
						stacks.Hold(t, s, c, stacks.Full(c, n))
					}
				}
			}
		})
	}
}

// Spans of keys that are not there are refused, whatever the stack has, and ahead of sums
// that would not fit.
func TestRefused(t *testing.T) {
	for _, c := range stacks.All() {
		count := configs.Count(c.Bits, 0)
		for _, n := range []int64{7, highest} {
			s := stacks.Filled(c, stacks.Full(c, n))
			for _, beyond := range configs.Outside(count) {
				for _, key := range configs.Within(count) {
					holdRefused(t, s, key, beyond, api.ErrKey)
					holdRefused(t, s, beyond, key, api.ErrArg)
					if key > 0 {
						holdRefused(t, s, key, key-1, api.ErrArg)
					}
				}
				holdRefused(t, s, 0, beyond, api.ErrKey)
				holdRefused(t, s, beyond, beyond, api.ErrKey)
				holdRefused(t, s, beyond, beyond-1, api.ErrArg)
			}
			stacks.Hold(t, s, c, stacks.Full(c, n))
		}
	}
}

func TestRankNamed(t *testing.T) {
	cells := stacks.Cells{{1, 2, -3, 4, 5, 6, 7, 8}, {11, 12, 13, -14}, {21, 22}, {31}}
	for _, mode := range configs.Modes() {
		s := stacks.Filled(api.Config{Bits: 3, Rows: 2, Width: 8, Mode: mode, Seed: 9}, cells)
		for _, x := range []struct {
			key   uint64
			want  int64
			fails api.Errno
		}{
			{0, 1, api.OK}, {1, 11, api.OK}, {2, 8, api.OK}, {3, 21, api.OK}, {4, 26, api.OK}, {5, 34, api.OK}, {6, 41, api.OK}, {7, 31, api.OK},
			{8, 0, api.ErrKey}, {9, 0, api.ErrKey}, {1 << 32, 0, api.ErrKey}, {1<<63 + 1, 0, api.ErrKey}, {full, 0, api.ErrKey},
		} {
			if n, e := span.Rank(s, x.key); n != x.want || e != x.fails {
				t.Errorf("Rank to %d: %d, %v, not %d, %v", x.key, n, e, x.want, x.fails)
			}
		}
	}
}

// row is a row of parts, and what Range answers of them.
type row struct {
	parts []int64
	want  int64
	fails api.Errno
}

// rows tells rows of parts that come to just the greatest and just the least sum that fits,
// to one more, and to one less, and such as do not fit on the way alone.
func rows() []row {
	return []row{
		{[]int64{0}, 0, api.OK},
		{[]int64{highest}, highest, api.OK},
		{[]int64{lowest}, lowest, api.OK},
		{[]int64{highest - 1, 1}, highest, api.OK},
		{[]int64{highest - 1, 2}, 0, api.ErrOverflow},
		{[]int64{highest, 1}, 0, api.ErrOverflow},
		{[]int64{highest, -1}, highest - 1, api.OK},
		{[]int64{lowest + 1, -1}, lowest, api.OK},
		{[]int64{lowest + 1, -2}, 0, api.ErrOverflow},
		{[]int64{lowest, -1}, 0, api.ErrOverflow},
		{[]int64{lowest, 1}, lowest + 1, api.OK},
		{[]int64{highest, lowest}, -1, api.OK},
		{[]int64{1 << 62, 1 << 62}, 0, api.ErrOverflow},
		{[]int64{1 << 62, 1<<62 - 1}, highest, api.OK},
		{[]int64{-1 << 62, -1 << 62}, lowest, api.OK},
		{[]int64{-1 << 62, -1<<62 - 1}, 0, api.ErrOverflow},
		{[]int64{highest, 1, -1}, highest, api.OK},
		{[]int64{lowest, -1, 1}, lowest, api.OK},
		{[]int64{highest, 1, 1, -2}, highest, api.OK},
		{[]int64{highest, highest, lowest, lowest}, -2, api.OK},
		{[]int64{highest, highest, highest, lowest, lowest}, highest - 2, api.OK},
		{[]int64{highest, highest, lowest, lowest, lowest, 2}, lowest, api.OK},
		{[]int64{highest, highest, lowest, lowest, lowest, 1}, 0, api.ErrOverflow},
		// Such as would fit, if they went round.
		{[]int64{lowest, lowest}, 0, api.ErrOverflow},
		{[]int64{highest, highest}, 0, api.ErrOverflow},
		{[]int64{highest, highest, 2}, 0, api.ErrOverflow},
		{[]int64{1 << 62, 1 << 62, 1 << 62, 1 << 62}, 0, api.ErrOverflow},
		{[]int64{highest, highest, highest, highest, highest}, 0, api.ErrOverflow},
		{[]int64{lowest, lowest, lowest, lowest, lowest}, 0, api.ErrOverflow},
	}
}

// All keys but the first one are a piece of each level but the highest one, and so are all
// but the last one: in whichever order parts stand, at whichever levels, their sum is told,
// if it fits, and they are told, be it that it fits or not.
func TestSumsAtTheEdges(t *testing.T) {
	for _, c := range stacks.All() {
		for _, x := range rows() {
			if len(x.parts) > c.Bits {
				continue
			}
			parts := slices.Concat(x.parts, make([]int64, c.Bits-len(x.parts)))
			for from := 0; from < c.Bits; from += 1 + c.Bits/7 {
				turned := slices.Concat(parts[from:], parts[:from])
				holdRow(t, c, row{turned, x.want, x.fails})
				slices.Reverse(turned)
				holdRow(t, c, row{turned, x.want, x.fails})
			}
		}
	}
}

// holdRow holds what is told of all keys but the first or the last one, if the levels but
// the highest one have these parts, from level 0 on.
func holdRow(t *testing.T, c api.Config, x row) {
	t.Helper()
	// The piece of all keys is in neither span.
	cells := stacks.Each(c, slices.Concat(x.parts, []int64{77})...)
	s, end := stacks.Filled(c, cells), configs.Last(c.Bits)
	hold(t, s, 1, end, x.parts...)
	holdSum(t, s, 1, end, x.want, x.fails)
	back := slices.Clone(x.parts)
	slices.Reverse(back)
	hold(t, s, 0, end-1, back...)
	holdSum(t, s, 0, end-1, x.want, x.fails)
	stacks.Hold(t, s, c, cells)
}

// One part alone fits, be it as great or as little as may be.
func TestOnePartAtTheEdges(t *testing.T) {
	for _, c := range stacks.All() {
		for _, n := range []int64{highest, lowest} {
			s := stacks.Filled(c, stacks.Full(c, n))
			for _, key := range configs.Within(configs.Count(c.Bits, 0)) {
				hold(t, s, key, key, n)
			}
			hold(t, s, 0, configs.Last(c.Bits), n)
		}
	}
}

// What was told is the caller's: it may be written over, and made longer, and stays when
// the stack changes. It is told anew each time.
func TestPartsApart(t *testing.T) {
	for i, c := range stacks.Configs() {
		cells := stacks.Strewn(c, i, 8)
		s := stacks.Filled(c, cells)
		for _, x := range []keys{{0, configs.Last(c.Bits)}, {1, configs.Last(c.Bits)}, {0, configs.Last(c.Bits) - 1}, {0, 0}} {
			want := points(t, s, x)
			first, _ := span.Parts(s, x.lo, x.hi)
			second, _ := span.Parts(s, x.lo, x.hi)
			clear(first)
			_ = append(first[:len(first)-1], 77)
			if !slices.Equal(second, want) {
				t.Errorf("what was told of %v became %v", c, second)
			}
			stacks.Hold(t, s, c, cells)
			hold(t, s, x.lo, x.hi, want...)
			o := stacks.Filled(c, cells)
			third, _ := span.Parts(o, x.lo, x.hi)
			if e := o.Update(x.hi, 1<<60); e != api.OK || !slices.Equal(second, want) || !slices.Equal(third, want) {
				t.Errorf("Update: %v; what was told of %v became %v, and %v", e, c, second, third)
			}
		}
	}
}

// Each stack is asked for itself: two that have the same config tell what each of them has.
func TestStacksApart(t *testing.T) {
	for i, c := range stacks.Configs() {
		one := stacks.Fed(c, levels.Taken(i, levels.At(c, 0)))
		other := stacks.Fed(c, levels.Taken(i+5, levels.At(c, 0)))
		for _, x := range []keys{{0, configs.Last(c.Bits)}, {1, configs.Last(c.Bits)}, {0, configs.Last(c.Bits) - 1}} {
			a, b := points(t, one, x), points(t, other, x)
			hold(t, one, x.lo, x.hi, a...)
			hold(t, other, x.lo, x.hi, b...)
			hold(t, one, x.lo, x.hi, a...)
		}
	}
}
