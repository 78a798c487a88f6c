package merge_test

import (
	"math"
	"testing"

	"gauger/api"
	"gauger/configs"
	"gauger/either"
	"gauger/level"
	"gauger/levels"
	"gauger/merge"
	"gauger/stack"
	"gauger/stacks"
	"gauger/wide"
)

// leastWide and mostWide are -2^127 and 2^127 - 1.
var (
	leastWide = api.Wide{Hi: lowest}
	mostWide  = api.Wide{Hi: highest, Lo: math.MaxUint64}
)

// holdInner holds Inner of both, and of both the other way round, against what is wanted, and
// both behind it against what they were.
func holdInner(t *testing.T, a, b *stack.Stack, want api.Wide, fails api.Errno) {
	t.Helper()
	was, were := tells(a), tells(b)
	for range 2 {
		if n, e := merge.Inner(a, b); n != want || e != fails {
			t.Errorf("Inner of %v and %v: %v, %v, not %v, %v", was, were, n, e, want, fails)
		}
		holdTold(t, a, was)
		holdTold(t, b, were)
		a, b, was, were = b, a, were, was
	}
}

// with tells the stack of a config with these cells at level 0, and this number in all cells
// of the others.
func with(c api.Config, cells []int64, others int64) *stack.Stack {
	all := stacks.Full(c, others)
	all[0] = cells
	return stacks.Filled(c, all)
}

// What a and b have of four cells each at level 0: an array, or a sketch of one row. What
// the other levels have has no part in it, be it nothing, or more than fits.
func TestInnerNamed(t *testing.T) {
	for _, x := range []struct {
		name  string
		a, b  []int64
		want  api.Wide
		fails api.Errno
	}{
		{"empty ones", []int64{0, 0, 0, 0}, []int64{0, 0, 0, 0}, api.Wide{}, api.OK},
		{"an empty one", []int64{1, 2, 3, 4}, []int64{0, 0, 0, 0}, api.Wide{}, api.OK},
		{"nothing in common", []int64{1, 0, 3, 0}, []int64{0, 6, 0, 8}, api.Wide{}, api.OK},
		{"ordinary ones", []int64{1, 2, 3, 4}, []int64{5, 6, 7, 8}, wide.Of(70), api.OK},
		{"the other order", []int64{1, 2, 3, 4}, []int64{8, 7, 6, 5}, wide.Of(60), api.OK},
		{"below 0", []int64{1, -2, 3, -4}, []int64{5, 6, 7, 8}, wide.Of(-18), api.OK},
		{"just below 0", []int64{0, -1, 0, 0}, []int64{5, 1, 7, 8}, wide.Of(-1), api.OK},
		{"both below 0", []int64{-1, -2, -3, -4}, []int64{-5, -6, -7, -8}, wide.Of(70), api.OK},
		{"the first alone", []int64{1, 0, 0, 0}, []int64{5, 6, 7, 8}, wide.Of(5), api.OK},
		{"the last alone", []int64{0, 0, 0, 1}, []int64{5, 6, 7, 8}, wide.Of(8), api.OK},
		{"the greatest of 64 bits", []int64{highest, 0, 0, 0}, []int64{1, 0, 0, 0}, wide.Of(highest), api.OK},
		{"one more", []int64{highest, 1, 0, 0}, []int64{1, 1, 0, 0}, api.Wide{Lo: 1 << 63}, api.OK},
		{"the least of 64 bits", []int64{0, lowest, 0, 0}, []int64{0, 1, 0, 0}, wide.Of(lowest), api.OK},
		{"one less", []int64{0, lowest, -1, 0}, []int64{0, 1, 1, 0}, api.Wide{Hi: -1, Lo: highest}, api.OK},
		{"2 to the power of 64", []int64{1 << 32, 0, 0, 0}, []int64{1 << 32, 0, 0, 0}, api.Wide{Hi: 1}, api.OK},
		{"much below 0", []int64{lowest, 0, 0, 0}, []int64{highest, 0, 0, 0}, api.Wide{Hi: -1 << 62, Lo: 1 << 63}, api.OK},
		{"the greatest", []int64{lowest, highest, 2, 0}, []int64{lowest, highest, highest, 0}, mostWide, api.OK},
		{"one more than the greatest", []int64{lowest, highest, 2, 1}, []int64{lowest, highest, highest, 1}, api.Wide{}, api.ErrOverflow},
		{"the least", []int64{lowest, lowest, 2, 0}, []int64{highest, highest, lowest, 0}, leastWide, api.OK},
		{"one less than the least", []int64{lowest, lowest, 2, -1}, []int64{highest, highest, lowest, 1}, api.Wide{}, api.ErrOverflow},
		{"too much on the way", []int64{lowest, lowest, -1, 0}, []int64{lowest, lowest, 1, 0}, api.Wide{}, api.ErrOverflow},
		{"just not too much on the way", []int64{lowest, -1, lowest, 0}, []int64{lowest, 1, lowest, 0}, mostWide, api.OK},
		{"far too much", []int64{lowest, lowest, lowest, lowest}, []int64{lowest, lowest, lowest, lowest}, api.Wide{}, api.ErrOverflow},
	} {
		t.Run(x.name, func(t *testing.T) {
			for _, mode := range configs.Modes() {
				want, fails := x.want, x.fails
				if mode != api.Linear {
					want, fails = api.Wide{}, api.ErrMode
				}
				for _, c := range []api.Config{
					{Bits: 2, Rows: 3, Width: 4, Mode: mode, Seed: 5},
					{Bits: 2, Rows: 1, Width: 128, Mode: mode, Seed: 5},
					{Bits: 6, Rows: 1, Width: 4, Mode: mode, Seed: 5},
					{Bits: 59, Rows: 1, Width: 4, Mode: mode, Seed: 5},
				} {
					holdInner(t, with(c, x.a, 0), with(c, x.b, 0), want, fails)
					holdInner(t, with(c, x.a, 3), with(c, x.b, 4), want, fails)
					holdInner(t, with(c, x.a, lowest), with(c, x.b, lowest), want, fails)
					holdInner(t, with(c, x.a, highest), with(c, x.b, lowest), want, fails)
				}
			}
		})
	}
}

// Of a sketch it is the least product of its rows, and one that does not fit is enough.
func TestInnerOfRows(t *testing.T) {
	for _, x := range []struct {
		a, b  []int64
		want  api.Wide
		fails api.Errno
	}{
		{[]int64{1, 2, 3, 4}, []int64{5, 6, 7, 8}, wide.Of(17), api.OK},
		{[]int64{3, 4, 1, 2}, []int64{7, 8, 5, 6}, wide.Of(17), api.OK},
		{[]int64{1, 2, 3, 4}, []int64{5, 6, -7, 8}, wide.Of(11), api.OK},
		{[]int64{0, 5, 5, 0}, []int64{7, 0, 7, 0}, api.Wide{}, api.OK},
		{[]int64{0, lowest, lowest, 0}, []int64{0, lowest, lowest, 0}, api.Wide{Hi: 1 << 62}, api.OK},
		{[]int64{lowest, 0, 1, 0}, []int64{highest, 0, -1, 0}, api.Wide{Hi: -1 << 62, Lo: 1 << 63}, api.OK},
		{[]int64{1, 2, lowest, lowest}, []int64{5, 6, lowest, lowest}, api.Wide{}, api.ErrOverflow},
		{[]int64{lowest, lowest, 3, 4}, []int64{lowest, lowest, 7, 8}, api.Wide{}, api.ErrOverflow},
	} {
		for _, bits := range []int{2, 3, 59} {
			c := api.Config{Bits: bits, Rows: 2, Width: 2, Mode: api.Linear, Seed: 5}
			holdInner(t, with(c, x.a, 0), with(c, x.b, 0), x.want, x.fails)
			holdInner(t, with(c, x.a, lowest), with(c, x.b, lowest), x.want, x.fails)
		}
	}
}

// Strewn cells of all sizes, in each mode, whose levels 0 are exact, or are not: what Inner of
// layer 13 tells of the levels 0. Two stacks may be the same one.
func TestInnerOfAll(t *testing.T) {
	kinds := map[string]map[api.Errno]int{either.Sketch: {}, either.Array: {}}
	below, more := 0, 0
	for i, c := range stacks.All() {
		p := levels.At(c, 0)
		for j, shift := range []uint{0, 0, 1, 1, 7, 40} {
			a, b := stacks.Strewn(c, i+j, shift), stacks.Strewn(c, i+31, shift/2)
			want, fails := level.Inner(either.Filled(p, a[0]...), either.Filled(p, b[0]...))
			holdInner(t, stacks.Filled(c, a), stacks.Filled(c, b), want, fails)
			kinds[either.KindOf(p)][fails]++
			if want.Hi < 0 {
				below++
			}
			if want.Hi != 0 && want.Hi != -1 {
				more++
			}
			s := stacks.Filled(c, a)
			want, fails = level.Inner(either.Filled(p, a[0]...), either.Filled(p, a[0]...))
			holdInner(t, s, s, want, fails)
			holdInner(t, s, s.Copy(), want, fails)
			kinds[either.KindOf(p)][fails]++
		}
	}
	for is, all := range kinds {
		if len(all) != 3 || all[api.OK] < 50 || all[api.ErrMode] < 50 || all[api.ErrOverflow] < 10 {
			t.Errorf("too few of some answers of levels 0 that are %s, or others: %v", is, all)
		}
	}
	if below < 20 || more < 50 {
		t.Errorf("only %d products are below 0, and %d have more than 64 bits", below, more)
	}
}

// What the modes Conservative and Median have no product of comes ahead of what does not fit.
func TestInnerOfModes(t *testing.T) {
	for _, c := range stacks.All() {
		for _, n := range []int64{0, 1, highest, lowest} {
			s, o := stacks.Filled(c, stacks.Full(c, n)), stacks.Filled(c, stacks.Full(c, n))
			if c.Mode != api.Linear {
				holdInner(t, s, o, api.Wide{}, api.ErrMode)
				holdInner(t, s, s, api.Wide{}, api.ErrMode)
				continue
			}
			// A row of level 0 has as many cells as there are columns, or keys, if they are
			// less; the squares of the greatest and the least number fit once or twice.
			count := min(configs.Count(c.Bits, 0), uint64(c.Width))
			want, fails := wide.Times(n*n, int64(count)), api.OK
			if n == highest || n == lowest {
				want = wide.Times(n, n)
				for range count - 1 {
					sum, fits := wide.Add(want, wide.Times(n, n))
					if want = sum; !fits {
						want, fails = api.Wide{}, api.ErrOverflow
						break
					}
				}
			}
			holdInner(t, s, o, want, fails)
			holdInner(t, s, s, want, fails)
		}
	}
}

// It is told anew each time: of what the stacks have then.
func TestInnerKeepsNothing(t *testing.T) {
	for _, c := range []api.Config{
		{Bits: 1, Rows: 3, Width: 2, Mode: api.Linear, Seed: 5},
		{Bits: 6, Rows: 1, Width: 2, Mode: api.Linear, Seed: 5},
	} {
		a, b := with(c, []int64{3, 4}, 7), with(c, []int64{5, 6}, 8)
		holdInner(t, a, b, wide.Of(39), api.OK)
		if !a.Load(0, []int64{1, 0}) {
			t.Errorf("%v is not loaded", c)
		}
		holdInner(t, a, b, wide.Of(5), api.OK)
		if !b.Load(0, []int64{-7, 9}) {
			t.Errorf("%v is not loaded", c)
		}
		holdInner(t, a, b, wide.Of(-7), api.OK)
		if e := merge.Merge(a, b); e != api.OK {
			t.Errorf("Merge: %v", e)
		}
		// The first has -6 9 now.
		holdInner(t, a, b, wide.Of(42+81), api.OK)
		if e := merge.Subtract(b, a); e != api.OK {
			t.Errorf("Subtract: %v", e)
		}
		holdInner(t, a, b, wide.Of(6), api.OK)
	}
}
