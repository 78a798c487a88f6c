package level_test

import (
	"math"
	"slices"
	"testing"

	"gauger/api"
	"gauger/configs"
	"gauger/either"
	"gauger/inner"
	"gauger/level"
	"gauger/levels"
	"gauger/sketches"
	"gauger/wide"
)

// leastWide and mostWide are -2^127 and 2^127 - 1.
var (
	leastWide = api.Wide{Hi: lowest}
	mostWide  = api.Wide{Hi: highest, Lo: math.MaxUint64}
)

// told is all that a level tells of itself; nothing, if it is nil.
type told struct {
	is    string
	place levels.Place
	cells []int64
}

// tells tells what the level tells of itself.
func tells(l level.Level) told {
	if l == nil {
		return told{is: "nil"}
	}
	return told{is: either.What(l), place: levels.At(l.Config(), l.Level()), cells: l.Cells()}
}

// holdTold holds what the level tells of itself against what it told.
func holdTold(t *testing.T, l level.Level, was told) {
	t.Helper()
	if now := tells(l); now.is != was.is || now.place != was.place || !slices.Equal(now.cells, was.cells) {
		t.Errorf("%v became %v", was, now)
	}
}

// holdOne holds a call of a with b against the error that is wanted, and both behind it
// against what they were.
func holdOne(t *testing.T, name string, call func(a, b level.Level) api.Errno, a, b level.Level, fails api.Errno) {
	t.Helper()
	was, were := tells(a), tells(b)
	if e := call(a, b); e != fails {
		t.Errorf("%s of %v and %v: %v, not %v", name, was, were, e, fails)
	}
	holdTold(t, a, was)
	holdTold(t, b, were)
}

// holdInner holds Inner of both, and of both the other way round, against what is wanted,
// and both behind it against what they were.
func holdInner(t *testing.T, a, b level.Level, want api.Wide, fails api.Errno) {
	t.Helper()
	call := func(a, b level.Level) api.Errno {
		n, e := level.Inner(a, b)
		if n != want {
			t.Errorf("Inner of %v and %v is %v, not %v", tells(a), tells(b), n, want)
		}
		return e
	}
	holdOne(t, "Inner", call, a, b, fails)
	holdOne(t, "Inner", call, b, a, fails)
}

// holdIncompatible holds that both levels cannot be put together, whichever is first.
func holdIncompatible(t *testing.T, a, b level.Level) {
	t.Helper()
	for _, pair := range [][2]level.Level{{a, b}, {b, a}} {
		holdOne(t, "Merge", level.Merge, pair[0], pair[1], api.ErrIncompatible)
		holdOne(t, "Subtract", level.Subtract, pair[0], pair[1], api.ErrIncompatible)
	}
	holdInner(t, a, b, api.Wide{}, api.ErrIncompatible)
}

// turns tells what cells have: such whose sums and products fit, and such that do not.
func turns() [][]int64 {
	return [][]int64{{0}, {3, -5}, {lowest}, {highest}}
}

// A sketch and an array: of unlike levels of a config, and of the same one, which is exact.
func TestOneOfEach(t *testing.T) {
	unlike := 0
	for _, p := range either.Places() {
		for _, row := range turns() {
			first := configs.Exact(p.Config)
			if either.KindOf(p) == either.Array {
				holdIncompatible(t, either.Full(p, row...), shared(p, row...))
				continue
			}
			for _, at := range []int{first, p.Config.Bits} {
				holdIncompatible(t, either.Full(p, row...), either.Full(levels.At(p.Config, at), row...))
				unlike++
			}
		}
	}
	if unlike < 1000 {
		t.Errorf("too few pairs of unlike levels: %d", unlike)
	}
}

// Nil, and levels of other kinds: on either side, and on both.
func TestOfNone(t *testing.T) {
	holdIncompatible(t, nil, nil)
	for _, p := range either.Places() {
		for _, l := range []level.Level{either.Full(p, 7), shared(p, 7), either.Full(p, lowest), shared(p, lowest)} {
			for _, o := range others(p) {
				holdIncompatible(t, l, o)
			}
		}
		for _, l := range others(p) {
			for _, o := range others(p) {
				holdIncompatible(t, l, o)
			}
		}
	}
}

// Levels of the same kind: of configs unlike in one field each, and of unlike levels.
func TestIncompatible(t *testing.T) {
	alike := map[string]int{}
	for i, p := range either.Places() {
		row := turns()[i%len(turns())]
		for _, other := range levels.Others(p) {
			if either.KindOf(other) == either.KindOf(p) {
				holdIncompatible(t, either.Full(p, row...), either.Full(other, row...))
				alike[either.KindOf(p)]++
			}
			holdIncompatible(t, shared(p, row...), shared(other, row...))
		}
	}
	if alike[either.Sketch] < 1000 || alike[either.Array] < 1000 {
		t.Errorf("too few pairs of the same kind: %v", alike)
	}
}

// fours tells places with four cells each: two of sketches, and two of arrays.
func fours(mode int) []levels.Place {
	return []levels.Place{
		levels.At(api.Config{Bits: 6, Rows: 2, Width: 2, Mode: mode, Seed: 5}, 0),
		levels.At(api.Config{Bits: 6, Rows: 4, Width: 1, Mode: mode, Seed: 5}, 3),
		levels.At(api.Config{Bits: 2, Rows: 3, Width: 4, Mode: mode, Seed: 5}, 0),
		levels.At(api.Config{Bits: 6, Rows: 1, Width: 128, Mode: mode, Seed: 5}, 4),
	}
}

func TestJoinedNamed(t *testing.T) {
	for _, mode := range configs.Modes() {
		for _, p := range fours(mode) {
			a, b := []int64{1, 2, 3, 4}, []int64{10, -20, 30, -40}
			either.Kind().HoldJoined(t, p, a, b, []int64{11, -18, 33, -36}, []int64{-9, 22, -27, 44})
			either.Kind().HoldJoined(t, p, b, a, []int64{11, -18, 33, -36}, []int64{9, -22, 27, -44})
			// The last ones that fit, and one that just does not, at the first cell and the last.
			a, b = []int64{highest, lowest, 0, -1}, []int64{0, 0, highest, lowest + 1}
			either.Kind().HoldJoined(t, p, a, b, []int64{highest, lowest, highest, lowest}, []int64{highest, lowest, -highest, highest - 1})
			a, b = []int64{highest, 1, 2, 3}, []int64{1, 1, 1, 1}
			either.Kind().HoldJoined(t, p, a, b, nil, []int64{highest - 1, 0, 1, 2})
			a = []int64{1, 2, 3, lowest}
			either.Kind().HoldJoined(t, p, a, b, []int64{2, 3, 4, lowest + 1}, nil)
		}
	}
}

// Sketches of an exact level are put together as sketches.
func TestSketchesOfExactLevels(t *testing.T) {
	for _, mode := range configs.Modes() {
		p := levels.At(api.Config{Bits: 2, Rows: 2, Width: 2, Mode: mode, Seed: 5}, 1)
		a, b := shared(p, 1, 2, 3, 4), shared(p, 5, 6, 7, 8)
		if mode == api.Linear {
			holdInner(t, a, b, wide.Of(5+12), api.OK)
		} else {
			holdInner(t, a, b, api.Wide{}, api.ErrMode)
		}
		if e := level.Merge(a, b); e != api.OK {
			t.Errorf("Merge: %v", e)
		}
		hold(t, a, either.Sketch, p, []int64{6, 8, 10, 12})
		if mode == api.Conservative {
			holdOne(t, "Subtract", level.Subtract, a, b, api.ErrMode)
			continue
		}
		if e := level.Subtract(a, b); e != api.OK {
			t.Errorf("Subtract: %v", e)
		}
		hold(t, a, either.Sketch, p, []int64{1, 2, 3, 4})
	}
}

// What a and b have of four cells each: those of an array, and of a sketch of one row, of
// whose rows the least product is theirs.
func TestInnerNamed(t *testing.T) {
	for _, x := range []struct {
		a, b  []int64
		want  api.Wide
		fails api.Errno
	}{
		{[]int64{0, 0, 0, 0}, []int64{0, 0, 0, 0}, api.Wide{}, api.OK},
		{[]int64{1, 2, 3, 4}, []int64{0, 0, 0, 0}, api.Wide{}, api.OK},
		{[]int64{1, 2, 3, 4}, []int64{5, 6, 7, 8}, wide.Of(70), api.OK},
		{[]int64{1, 2, 3, 4}, []int64{8, 7, 6, 5}, wide.Of(60), api.OK},
		{[]int64{1, -2, 3, -4}, []int64{5, 6, 7, 8}, wide.Of(-18), api.OK},
		{[]int64{0, 0, 0, 1}, []int64{5, 6, 7, 8}, wide.Of(8), api.OK},
		{[]int64{1, 0, 0, 0}, []int64{5, 6, 7, 8}, wide.Of(5), api.OK},
		{[]int64{1 << 32, 0, 0, 0}, []int64{1 << 32, 0, 0, 0}, api.Wide{Hi: 1}, api.OK},
		{[]int64{lowest, 0, 0, 0}, []int64{highest, 0, 0, 0}, api.Wide{Hi: -1 << 62, Lo: 1 << 63}, api.OK},
		// The last sums that fit, and the first ones that do not.
		{[]int64{lowest, highest, 2, 0}, []int64{lowest, highest, highest, 0}, mostWide, api.OK},
		{[]int64{lowest, highest, 2, 1}, []int64{lowest, highest, highest, 1}, api.Wide{}, api.ErrOverflow},
		{[]int64{0, lowest, 0, lowest}, []int64{0, lowest, 0, lowest}, api.Wide{}, api.ErrOverflow},
		{[]int64{lowest, lowest, 2, 0}, []int64{highest, highest, lowest, 0}, leastWide, api.OK},
		{[]int64{lowest, lowest, 2, -1}, []int64{highest, highest, lowest, 1}, api.Wide{}, api.ErrOverflow},
		{[]int64{lowest, lowest, lowest, 0}, []int64{highest, highest, highest, 0}, api.Wide{}, api.ErrOverflow},
		// The same ones in another order, of which a sum on the way does not fit.
		{[]int64{lowest, -1, lowest, 0}, []int64{lowest, 1, lowest, 0}, mostWide, api.OK},
		{[]int64{lowest, lowest, -1, 0}, []int64{lowest, lowest, 1, 0}, api.Wide{}, api.ErrOverflow},
		{[]int64{lowest, lowest, lowest, lowest}, []int64{lowest, lowest, lowest, lowest}, api.Wide{}, api.ErrOverflow},
	} {
		for _, p := range []levels.Place{
			levels.At(api.Config{Bits: 2, Rows: 3, Width: 4, Mode: api.Linear, Seed: 5}, 0),
			levels.At(api.Config{Bits: 6, Rows: 1, Width: 128, Mode: api.Linear, Seed: 5}, 4),
			levels.At(api.Config{Bits: 6, Rows: 1, Width: 4, Mode: api.Linear, Seed: 5}, 3),
		} {
			holdInner(t, either.Filled(p, x.a...), either.Filled(p, x.b...), x.want, x.fails)
		}
	}
}

// Of a sketch it is the least product of its rows, and one that does not fit is enough.
func TestInnerOfRows(t *testing.T) {
	for _, x := range []struct {
		a, b  []int64
		want  api.Wide
		fails api.Errno
	}{
		{[]int64{1, 2, 3, 4}, []int64{5, 6, 7, 8}, wide.Of(17), api.OK},
		{[]int64{3, 4, 1, 2}, []int64{7, 8, 5, 6}, wide.Of(17), api.OK},
		{[]int64{1, 2, 3, 4}, []int64{5, 6, -7, 8}, wide.Of(11), api.OK},
		{[]int64{1, 2, lowest, lowest}, []int64{5, 6, lowest, lowest}, api.Wide{}, api.ErrOverflow},
		{[]int64{lowest, lowest, 3, 4}, []int64{lowest, lowest, 7, 8}, api.Wide{}, api.ErrOverflow},
		{[]int64{0, lowest, lowest, 0}, []int64{0, lowest, lowest, 0}, api.Wide{Hi: 1 << 62}, api.OK},
	} {
		p := levels.At(api.Config{Bits: 6, Rows: 2, Width: 2, Mode: api.Linear, Seed: 5}, 4)
		holdInner(t, either.Filled(p, x.a...), either.Filled(p, x.b...), x.want, x.fails)
	}
}

// product tells what Inner has to tell of two levels of a place with these cells, by the
// layer of their kind.
func product(p levels.Place, a, b []int64) (api.Wide, api.Errno) {
	if either.KindOf(p) == either.Sketch {
		return inner.Inner(sketches.Kind().Filled(p, a...), sketches.Kind().Filled(p, b...))
	}
	if p.Config.Mode != api.Linear {
		return api.Wide{}, api.ErrMode
	}
	if n, fits := inner.Dot(a, b); fits {
		return n, api.OK
	}
	return api.Wide{}, api.ErrOverflow
}

// Strewn cells at each place, in each mode, of which some do not fit; two levels may be
// the same one.
func TestInnerOfAll(t *testing.T) {
	count := map[string]map[api.Errno]int{either.Sketch: {}, either.Array: {}}
	for i, p := range either.Places() {
		for _, shift := range []uint{0, 1, 7} {
			a, b := either.Kind().Strewn(p, i, shift), either.Kind().Strewn(p, i+31, shift/2)
			want, fails := product(p, a, b)
			holdInner(t, either.Filled(p, a...), either.Filled(p, b...), want, fails)
			l := either.Filled(p, a...)
			want, fails = product(p, a, a)
			holdInner(t, l, l, want, fails)
			holdInner(t, l, level.Copy(l), want, fails)
			count[either.KindOf(p)][fails]++
		}
	}
	for is, all := range count {
		if len(all) != 3 || all[api.OK] < 50 || all[api.ErrMode] < 50 || all[api.ErrOverflow] < 20 {
			t.Errorf("too few of some answers of %s, or others: %v", is, all)
		}
	}
}

// Each cell of an array has its part in the product, at its own place, be it in the first
// or in the second one.
func TestInnerOfEachKey(t *testing.T) {
	for _, p := range either.Places() {
		if either.KindOf(p) == either.Sketch || p.Config.Mode != api.Linear {
			continue
		}
		b := either.Kind().Full(p, 0)
		for key := range b {
			b[key] = int64(key + 2)
		}
		for key := range b {
			a := either.Kind().Full(p, 0)
			a[key] = 3
			holdInner(t, either.Filled(p, a...), either.Filled(p, b...), wide.Of(3*b[key]), api.OK)
		}
	}
}

// With four cells each: another mode, another level or another kind ahead of what does
// not fit, and another level or another kind ahead of the mode.
func TestErrorsInTheirOrder(t *testing.T) {
	for _, mode := range configs.Modes() {
		for i, p := range fours(mode) {
			other := p
			other.Config.Seed++
			for _, n := range []int64{3, lowest} {
				l, same, unlike := either.Full(p, n), either.Full(p, n), either.Full(other, n)
				holdIncompatible(t, l, unlike)
				holdIncompatible(t, l, either.Full(fours(mode)[(i+2)%4], n))
				want, fails := product(p, l.Cells(), same.Cells())
				if (fails == api.ErrMode) != (mode != api.Linear) {
					t.Errorf("the product of %v is %v, %v", p, want, fails)
				}
				holdInner(t, l, same, want, fails)
				if n == lowest {
					holdOne(t, "Merge", level.Merge, l, same, api.ErrOverflow)
				}
				if mode == api.Conservative {
					holdOne(t, "Subtract", level.Subtract, l, same, api.ErrMode)
					holdOne(t, "Subtract", level.Subtract, l, either.Full(p, 1), api.ErrMode)
				} else if n == lowest {
					holdOne(t, "Subtract", level.Subtract, l, either.Full(p, 1), api.ErrOverflow)
				}
			}
		}
	}
}

// What was told stays when the levels change, and is told anew then.
func TestInnerKeepsNothing(t *testing.T) {
	for _, p := range []levels.Place{
		levels.At(api.Config{Bits: 2, Rows: 3, Width: 2, Mode: api.Linear, Seed: 5}, 1),
		levels.At(api.Config{Bits: 6, Rows: 1, Width: 2, Mode: api.Linear, Seed: 5}, 0),
	} {
		l, o := either.Filled(p, 3, 4), either.Filled(p, 5, 6)
		holdInner(t, l, o, wide.Of(39), api.OK)
		if !l.Load([]int64{1, 0}) {
			t.Errorf("%v is not loaded", p)
		}
		holdInner(t, l, o, wide.Of(5), api.OK)
		if !o.Load([]int64{-7, 9}) {
			t.Errorf("%v is not loaded", p)
		}
		holdInner(t, l, o, wide.Of(-7), api.OK)
	}
}

// The chapter's section "What follows": of two arrays Inner is the sum of the products of
// what the same keys have.
func TestWhatFollows(t *testing.T) {
	for i, p := range either.Places() {
		if either.KindOf(p) == either.Sketch || p.Config.Mode != api.Linear {
			continue
		}
		first, second := levels.Taken(i, p), levels.Taken(i+20, p)
		keys := configs.Count(p.Config.Bits, p.Level)
		has, have, want := levels.Sums(keys, first), levels.Sums(keys, second), api.Wide{}
		for key, n := range has {
			want, _ = wide.Add(want, wide.Times(n, have[key]))
		}
		holdInner(t, either.Kind().Fed(p, first).Held, either.Kind().Fed(p, second).Held, want, api.OK)
	}
}
