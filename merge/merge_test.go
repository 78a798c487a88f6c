package merge_test

import (
	"math"
	"slices"
	"testing"

	"gauger/api"
	"gauger/configs"
	"gauger/merge"
	"gauger/stack"
	"gauger/stacks"
	"gauger/wide"
)

const (
	lowest  = math.MinInt64
	highest = math.MaxInt64
)

// call is one of the two that put stacks together, with what they do to a number of each:
// what it comes to, and whether that fits.
type call struct {
	name string
	do   func(a, b *stack.Stack) api.Errno
	put  func(n, m int64) (int64, bool)
}

// calls tells both of them.
func calls() (add, take call) {
	add = call{"Merge", merge.Merge, func(n, m int64) (int64, bool) {
		sum := n + m
		return sum, (sum >= n) == (m >= 0)
	}}
	take = call{"Subtract", merge.Subtract, func(n, m int64) (int64, bool) {
		rest := n - m
		return rest, (rest <= n) == (m >= 0)
	}}
	return add, take
}

// comes tells, by the words of the chapter, the cells that the call comes to, of stacks of
// the config with the cells a and b; those of a, and the error, if there is one.
func (x call) comes(c api.Config, a, b stacks.Cells) (stacks.Cells, api.Errno) {
	if x.name == "Subtract" && c.Mode == api.Conservative {
		return a, api.ErrMode
	}
	var all stacks.Cells
	for n, l := range a {
		var row []int64
		for i, cell := range l {
			put, fits := x.put(cell, b[n][i])
			if !fits {
				return a, api.ErrOverflow
			}
			row = append(row, put)
		}
		all = append(all, row)
	}
	return all, api.OK
}

// told is all that a stack tells of itself; nothing, if it is nil.
type told struct {
	config api.Config
	cells  stacks.Cells
}

// tells tells what the stack tells of itself.
func tells(s *stack.Stack) told {
	if s == nil {
		return told{}
	}
	return told{s.Config(), stacks.Told(s)}
}

// holdTold holds what the stack tells of itself against what it told.
func holdTold(t *testing.T, s *stack.Stack, was told) {
	t.Helper()
	if s != nil {
		stacks.Hold(t, s, was.config, was.cells)
	}
}

// hold does the call, and holds what it answers, and the cells of a behind it, against what
// is wanted; b stays, but if it is a.
func (x call) hold(t *testing.T, a, b *stack.Stack, want stacks.Cells, fails api.Errno) {
	t.Helper()
	was := tells(b)
	c := a.Config()
	if e := x.do(a, b); e != fails {
		t.Errorf("%s in %v: %v, not %v", x.name, c, e, fails)
	}
	stacks.Hold(t, a, c, want)
	if a != b {
		holdTold(t, b, was)
	}
}

// holdCells does the call to stacks of the config with the cells a and b, and holds it
// against what it comes to. It tells the error.
func (x call) holdCells(t *testing.T, c api.Config, a, b stacks.Cells) api.Errno {
	t.Helper()
	want, fails := x.comes(c, a, b)
	x.hold(t, stacks.Filled(c, a), stacks.Filled(c, b), want, fails)
	return fails
}

// holdIncompatible holds that both cannot be put together, and have no product, whichever is
// first.
func holdIncompatible(t *testing.T, a, b *stack.Stack) {
	t.Helper()
	was, were := tells(a), tells(b)
	for range 2 {
		for name, do := range map[string]func(a, b *stack.Stack) api.Errno{"Merge": merge.Merge, "Subtract": merge.Subtract} {
			if e := do(a, b); e != api.ErrIncompatible {
				t.Errorf("%s of %v and %v: %v", name, was.config, were.config, e)
			}
		}
		if n, e := merge.Inner(a, b); n != (api.Wide{}) || e != api.ErrIncompatible {
			t.Errorf("Inner of %v and %v: %v, %v", was.config, were.config, n, e)
		}
		holdTold(t, a, was)
		holdTold(t, b, were)
		a, b, was, were = b, a, were, was
	}
}

// enough holds that of the modes, where these levels are exact, there are so many answers
// with this error.
func enough(t *testing.T, all stacks.Answers, fails api.Errno, few int, modes ...int) {
	t.Helper()
	for _, mode := range modes {
		for _, exact := range []string{stacks.AllExact, stacks.SomeExact, stacks.OneExact} {
			if n := all[stacks.Answer{Mode: mode, Exact: exact, Fails: fails}]; n < few {
				t.Errorf("only %d answers with %v of the mode %d where %s are exact", n, fails, mode, exact)
			}
		}
	}
}

// some tells levels of the config: the lowest and the highest ones, those about the lowest
// one that is exact, and one between.
func some(c api.Config) []int {
	first := configs.Exact(c)
	all := []int{0, 1, max(first-1, 0), first, c.Bits / 2, c.Bits - 1, c.Bits}
	slices.Sort(all)
	return slices.Compact(all)
}

// The chapter's example, in each mode: of exact levels.
func TestExample(t *testing.T) {
	add, take := calls()
	for _, mode := range configs.Modes() {
		for _, width := range []int{4, 5, 128} {
			c := api.Config{Bits: 2, Rows: 2, Width: width, Mode: mode, Seed: 5}
			a := stacks.Fed(c, []api.Update{{Key: 1, Delta: 5}})
			b := stacks.Fed(c, []api.Update{{Key: 1, Delta: 2}, {Key: 3, Delta: 4}})
			want, fails := wide.Of(10), api.OK
			if mode != api.Linear {
				want, fails = api.Wide{}, api.ErrMode
			}
			if n, e := merge.Inner(a, b); n != want || e != fails {
				t.Errorf("Inner in %v: %v, %v", c, n, e)
			}
			merged := stacks.Cells{{0, 7, 0, 4}, {7, 4}, {11}}
			add.hold(t, a, b, merged, api.OK)
			if mode == api.Conservative {
				take.hold(t, a, b, merged, api.ErrMode)
				continue
			}
			take.hold(t, a, b, stacks.Cells{{0, 5, 0, 0}, {5, 0}, {5}}, api.OK)
			take.hold(t, a, b, stacks.Cells{{0, 3, 0, -4}, {3, -4}, {-1}}, api.OK)
		}
	}
}

// joined is the cells of two stacks, with their sums and their differences; nil, where one does
// not fit.
type joined struct {
	a, b, sum, rest stacks.Cells
}

// named tells some, of three bits and three columns, so that the levels 2 and 3 are exact: also
// the last ones that fit, and the first ones that do not.
func named() []joined {
	return []joined{
		{
			stacks.Cells{{1, 2, 3}, {4, 5, 6}, {7, 8}, {9}},
			stacks.Cells{{10, -20, 30}, {-40, 50, -60}, {70, -80}, {-90}},
			stacks.Cells{{11, -18, 33}, {-36, 55, -54}, {77, -72}, {-81}},
			stacks.Cells{{-9, 22, -27}, {44, -45, 66}, {-63, 88}, {99}},
		}, {
			stacks.Cells{{10, -20, 30}, {-40, 50, -60}, {70, -80}, {-90}},
			stacks.Cells{{1, 2, 3}, {4, 5, 6}, {7, 8}, {9}},
			stacks.Cells{{11, -18, 33}, {-36, 55, -54}, {77, -72}, {-81}},
			stacks.Cells{{9, -22, 27}, {-44, 45, -66}, {63, -88}, {-99}},
		}, {
			stacks.Cells{{highest, lowest, highest - 1}, {0, 0, lowest + 1}, {highest - 7, lowest + 7}, {highest}},
			stacks.Cells{{0, 0, 1}, {highest, lowest + 1, -1}, {7, -7}, {0}},
			stacks.Cells{{highest, lowest, highest}, {highest, lowest + 1, lowest}, {highest, lowest}, {highest}},
			stacks.Cells{{highest, lowest, highest - 2}, {-highest, highest, lowest + 2}, {highest - 14, lowest + 14}, {highest}},
		}, {
			stacks.Cells{{-1, -1, 1}, {1 << 62, 0, -1}, {5, lowest}, {lowest + 1}},
			stacks.Cells{{highest, lowest, lowest}, {1 << 62, lowest, lowest}, {6, lowest}, {1}},
			nil,
			nil, // 1 less lowest
		}, {
			stacks.Cells{{-1, 0, 0}, {0, 0, 0}, {0, 0}, {0}},
			stacks.Cells{{lowest, 0, 0}, {0, 0, 0}, {0, 0}, {0}},
			nil,
			stacks.Cells{{highest, 0, 0}, {0, 0, 0}, {0, 0}, {0}},
		}, {
			stacks.Cells{{0, 0, 0}, {0, 0, 0}, {0, 0}, {-1}},
			stacks.Cells{{0, 0, 0}, {0, 0, 0}, {0, 0}, {lowest}},
			nil,
			stacks.Cells{{0, 0, 0}, {0, 0, 0}, {0, 0}, {highest}},
		}, {
			stacks.Cells{{0, 0, 0}, {0, 0, 0}, {0, 0}, {0}},
			stacks.Cells{{0, 0, 0}, {0, 0, 0}, {0, lowest}, {0}},
			stacks.Cells{{0, 0, 0}, {0, 0, 0}, {0, lowest}, {0}},
			nil,
		},
	}
}

func TestNamed(t *testing.T) {
	add, take := calls()
	for _, mode := range configs.Modes() {
		c := api.Config{Bits: 3, Rows: 1, Width: 3, Mode: mode, Seed: 7}
		for _, x := range named() {
			want, fails := x.sum, api.OK
			if want == nil {
				want, fails = x.a, api.ErrOverflow
			}
			add.hold(t, stacks.Filled(c, x.a), stacks.Filled(c, x.b), want, fails)
			want, fails = x.rest, api.OK
			if want == nil {
				want, fails = x.a, api.ErrOverflow
			}
			if mode == api.Conservative {
				want, fails = x.a, api.ErrMode
			}
			take.hold(t, stacks.Filled(c, x.a), stacks.Filled(c, x.b), want, fails)
		}
	}
}

// Strewn cells, in each mode, of all sizes, the least number of bits and the greatest one
// among them: all of them fit, or some don't.
func TestOfAll(t *testing.T) {
	add, take := calls()
	added, taken := stacks.Answers{}, stacks.Answers{}
	for i, c := range stacks.All() {
		for _, shift := range []uint{0, 1, 2, 40} {
			a, b := stacks.Strewn(c, i, shift), stacks.Strewn(c, i+31, shift)
			added.Add(c, add.holdCells(t, c, a, b))
			added.Add(c, add.holdCells(t, c, b, a))
			taken.Add(c, take.holdCells(t, c, a, b))
			taken.Add(c, take.holdCells(t, c, b, a))
		}
	}
	enough(t, added, api.OK, 10, configs.Modes()...)
	enough(t, added, api.ErrOverflow, 4, configs.Modes()...)
	enough(t, taken, api.OK, 10, api.Linear, api.Median)
	enough(t, taken, api.ErrOverflow, 4, api.Linear, api.Median)
	enough(t, taken, api.ErrMode, 20, api.Conservative)
}

// One cell alone at the ends of what fits, and one beyond, at each level of a few bits, and
// at some of many: the first cell, the last one, and one between. All other levels would fit,
// those ahead as those behind it.
func TestOneLevelAlone(t *testing.T) {
	add, take := calls()
	for _, c := range stacks.All() {
		all := some(c)
		if c.Bits <= 10 {
			all = configs.Levels(c.Bits)
		}
		for _, n := range all {
			a, b := stacks.Full(c, 5), stacks.Full(c, 1)
			count := len(a[n])
			for i, at := range []int{0, count / 2, count - 1} {
				for _, x := range []struct {
					n          int64
					sum, taken api.Errno
				}{
					{highest - 1, api.OK, api.OK},
					{highest, api.ErrOverflow, api.OK},
					{lowest + 1, api.OK, api.OK},
					{lowest, api.OK, api.ErrOverflow},
				} {
					// Of the greatest ones some are enough.
					if i == 1 && c.Bits > 10 {
						continue
					}
					a[n][at] = x.n
					if e := add.holdCells(t, c, a, b); e != x.sum {
						t.Errorf("%d and 1 at level %d of %v: %v", x.n, n, c, e)
					}
					if c.Mode == api.Conservative {
						x.taken = api.ErrMode
					}
					if e := take.holdCells(t, c, a, b); e != x.taken {
						t.Errorf("%d less 1 at level %d of %v: %v", x.n, n, c, e)
					}
				}
				a[n][at] = 5
			}
		}
	}
}

// Several levels at once that don't fit: the first and the last one, all, and each second
// one; by too much, too little, or both.
func TestSeveralLevels(t *testing.T) {
	add, take := calls()
	for _, c := range stacks.All() {
		var odd, even []int
		for _, n := range configs.Levels(c.Bits) {
			if n%2 == 0 {
				even = append(even, n)
			} else {
				odd = append(odd, n)
			}
		}
		for _, turns := range [][]int64{{highest}, {lowest}, {highest, lowest}} {
			for _, all := range [][]int{{0, c.Bits}, {c.Bits - 1, c.Bits}, {0, 1}, odd, even, configs.Levels(c.Bits)} {
				a, b, less := stacks.Full(c, 5), stacks.Full(c, 1), stacks.Full(c, 1)
				for i, n := range all {
					m := turns[i%len(turns)]
					sign := int64(1)
					if m < 0 {
						sign = -1
					}
					last := len(a[n]) - 1
					a[n][last], b[n][last], less[n][last] = m, sign, -sign
				}
				if e := add.holdCells(t, c, a, b); e != api.ErrOverflow {
					t.Errorf("Merge with what does not fit at the levels %v of %v: %v", all, c, e)
				}
				fails := api.ErrOverflow
				if c.Mode == api.Conservative {
					fails = api.ErrMode
				}
				if e := take.holdCells(t, c, a, less); e != fails {
					t.Errorf("Subtract with what does not fit at the levels %v of %v: %v", all, c, e)
				}
			}
		}
	}
}

// Nil: the first stack, the second one, both; whatever the mode is, and the cells are.
func TestNil(t *testing.T) {
	holdIncompatible(t, nil, nil)
	for _, c := range stacks.All() {
		for _, n := range []int64{0, 7, highest, lowest} {
			holdIncompatible(t, stacks.Filled(c, stacks.Full(c, n)), nil)
		}
	}
}

// Configs that are unlike in one field alone, each of the fields, in each mode; also where
// what they have would not fit.
func TestUnlikeConfigs(t *testing.T) {
	unlike := map[string]int{}
	for i, c := range stacks.All() {
		n := []int64{0, 7, highest, lowest}[i%4]
		for _, other := range configs.Others(c) {
			holdIncompatible(t, stacks.Filled(c, stacks.Full(c, n)), stacks.Filled(other, stacks.Full(other, n)))
			for name, not := range map[string]bool{
				"Bits": c.Bits != other.Bits, "Rows": c.Rows != other.Rows, "Width": c.Width != other.Width,
				"Mode": c.Mode != other.Mode, "Seed": c.Seed != other.Seed,
			} {
				if not {
					unlike[name]++
				}
			}
		}
	}
	if len(unlike) != 5 {
		t.Errorf("not all fields are tried: %v", unlike)
	}
}

// Such that have the same cells: of one bit, all levels of which are exact, rows and columns
// do not matter; seed and mode never do.
func TestUnlikeConfigsWithTheSameCells(t *testing.T) {
	base := api.Config{Bits: 1, Rows: 2, Width: 2, Mode: api.Conservative, Seed: 5}
	for _, cells := range []stacks.Cells{{{1, 2}, {3}}, {{0, 0}, {0}}, {{highest, lowest}, {highest}}} {
		for _, other := range []api.Config{
			{Bits: 1, Rows: 3, Width: 2, Mode: api.Conservative, Seed: 5},
			{Bits: 1, Rows: 2, Width: 3, Mode: api.Conservative, Seed: 5},
			{Bits: 1, Rows: 2, Width: 2, Mode: api.Linear, Seed: 5},
			{Bits: 1, Rows: 2, Width: 2, Mode: api.Median, Seed: 5},
			{Bits: 1, Rows: 2, Width: 2, Mode: api.Conservative, Seed: 6},
			{Bits: 1, Rows: 2, Width: 2, Mode: api.Conservative, Seed: 1<<63 + 5},
		} {
			holdIncompatible(t, stacks.Filled(base, cells), stacks.Filled(other, cells))
		}
	}
}

// In the mode Conservative all is added, and nothing taken away, be there room or not, or
// nothing at all to take.
func TestConservative(t *testing.T) {
	add, take := calls()
	for i, c := range stacks.All() {
		if c.Mode != api.Conservative {
			continue
		}
		noughts := stacks.Full(c, 0)
		a, b := stacks.Strewn(c, i, 1), stacks.Strewn(c, i+9, 1)
		take.hold(t, stacks.Filled(c, noughts), stacks.Filled(c, noughts), noughts, api.ErrMode)
		take.hold(t, stacks.Filled(c, a), stacks.Filled(c, noughts), a, api.ErrMode)
		take.hold(t, stacks.Filled(c, a), stacks.Filled(c, b), a, api.ErrMode)
		for _, n := range []int64{highest, lowest} {
			full, ones := stacks.Full(c, n), stacks.Full(c, 1)
			take.hold(t, stacks.Filled(c, full), stacks.Filled(c, ones), full, api.ErrMode)
			take.hold(t, stacks.Filled(c, ones), stacks.Filled(c, full), ones, api.ErrMode)
			s := stacks.Filled(c, full)
			take.hold(t, s, s, full, api.ErrMode)
			add.hold(t, s, s, full, api.ErrOverflow)
		}
		if e := add.holdCells(t, c, a, b); e != api.OK {
			t.Errorf("Merge in %v: %v", c, e)
		}
	}
}

// A stack that is put to itself has twice as much, or nothing, at each level; one number
// that has no double is enough, wherever it is.
func TestWithItself(t *testing.T) {
	add, take := calls()
	for i, c := range stacks.All() {
		noughts, fails := stacks.Full(c, 0), api.OK
		if c.Mode == api.Conservative {
			fails = api.ErrMode
		}
		for _, n := range some(c) {
			for _, x := range []int64{0, -7, 1<<62 - 1, 1 << 62, -1 << 62, -1<<62 - 1, highest, lowest} {
				before, after := stacks.Strewn(c, i, 2), stacks.Strewn(c, i, 2)
				for _, l := range after {
					for at := range l {
						l[at] *= 2
					}
				}
				last := len(before[n]) - 1
				before[n][last], after[n][last] = x, 2*x
				s := stacks.Filled(c, before)
				if x < -1<<62 || x >= 1<<62 {
					add.hold(t, s, s, before, api.ErrOverflow)
				} else {
					add.hold(t, s, s, after, api.OK)
				}
				s, want := stacks.Filled(c, before), noughts
				if fails != api.OK {
					want = before
				}
				take.hold(t, s, s, want, fails)
			}
		}
	}
}

// Stacks without anything: put to one another, to others, and others to them.
func TestEmpty(t *testing.T) {
	add, take := calls()
	for i, c := range stacks.All() {
		noughts, cells := stacks.Full(c, 0), stacks.Strewn(c, i, 1)
		add.hold(t, stacks.Fed(c, nil), stacks.Fed(c, nil), noughts, api.OK)
		add.hold(t, stacks.Filled(c, cells), stacks.Fed(c, nil), cells, api.OK)
		add.hold(t, stacks.Fed(c, nil), stacks.Filled(c, cells), cells, api.OK)
		if c.Mode == api.Conservative {
			continue
		}
		turned := stacks.Strewn(c, i, 1)
		for _, l := range turned {
			for at := range l {
				l[at] = -l[at]
			}
		}
		take.hold(t, stacks.Fed(c, nil), stacks.Fed(c, nil), noughts, api.OK)
		take.hold(t, stacks.Filled(c, cells), stacks.Fed(c, nil), cells, api.OK)
		take.hold(t, stacks.Fed(c, nil), stacks.Filled(c, cells), turned, api.OK)
		// The least number turned round does not fit, wherever it is.
		for _, n := range some(c) {
			least := stacks.Full(c, 0)
			least[n][0] = lowest
			take.hold(t, stacks.Fed(c, nil), stacks.Filled(c, least), noughts, api.ErrOverflow)
			add.hold(t, stacks.Fed(c, nil), stacks.Filled(c, least), least, api.OK)
		}
	}
}

// Stacks that were put together, or were not, as it did not fit, change alone later on, and
// so does a copy that was made of one ahead.
func TestApart(t *testing.T) {
	add, take := calls()
	for i, c := range stacks.All() {
		for _, x := range []call{add, take} {
			for _, n := range []int64{2, lowest} {
				a, b := stacks.Filled(c, stacks.Full(c, 0, -9)), stacks.Filled(c, stacks.Full(c, n))
				copied := a.Copy()
				x.do(a, b)
				one := stacks.Told(a)
				if e := b.Update(0, 3); e != api.OK {
					t.Errorf("Update in %v: %v", c, e)
				}
				stacks.Hold(t, a, c, one)
				if !b.Load(i%c.Bits, stacks.Full(c, 77)[i%c.Bits]) {
					t.Errorf("level %d of %v is not loaded", i%c.Bits, c)
				}
				stacks.Hold(t, a, c, one)
				other := stacks.Told(b)
				if e := a.Update(0, 4); e != api.OK {
					t.Errorf("Update in %v: %v", c, e)
				}
				stacks.Hold(t, b, c, other)
				for level, l := range stacks.Full(c, 78) {
					if !a.Load(level, l) {
						t.Errorf("level %d of %v is not loaded", level, c)
					}
				}
				stacks.Hold(t, b, c, other)
				stacks.Hold(t, copied, c, stacks.Full(c, 0, -9))
			}
		}
	}
}

// One stack merged into several, and several into one: each has its own.
func TestMany(t *testing.T) {
	add, take := calls()
	for i, c := range stacks.Configs() {
		cells := stacks.Strewn(c, i, 8)
		b := stacks.Filled(c, cells)
		first, second := stacks.Fed(c, nil), stacks.Filled(c, stacks.Full(c, 5))
		want, _ := add.comes(c, stacks.Full(c, 5), cells)
		twice, _ := add.comes(c, want, cells)
		add.hold(t, first, b, cells, api.OK)
		add.hold(t, second, b, want, api.OK)
		add.hold(t, second, first, twice, api.OK)
		stacks.Hold(t, first, c, cells)
		stacks.Hold(t, b, c, cells)
		if c.Mode != api.Conservative {
			take.hold(t, second, b, want, api.OK)
			take.hold(t, b, b, stacks.Full(c, 0), api.OK)
			take.hold(t, second, first, stacks.Full(c, 5), api.OK)
		}
		stacks.Hold(t, first, c, cells)
	}
}

// A merged stack goes on as one with its cells does: what is told of keys, and what updates
// answer.
func TestGoesOn(t *testing.T) {
	for i, c := range stacks.Configs() {
		a, b := stacks.Filled(c, stacks.Strewn(c, i, 1)), stacks.Filled(c, stacks.Strewn(c, i+7, 1))
		if e := merge.Merge(a, b); e != api.OK {
			t.Errorf("Merge in %v: %v", c, e)
		}
		other := stacks.Filled(c, stacks.Told(a))
		for _, key := range configs.Within(configs.Count(c.Bits, 0)) {
			for _, d := range []int64{9, -9, highest, lowest} {
				if e, fails := a.Update(key, d), other.Update(key, d); e != fails {
					t.Errorf("Update of %d by %d in %v: %v, not %v", key, d, c, e, fails)
				}
			}
			for _, n := range configs.Levels(c.Bits) {
				p := api.Piece{Level: n, Index: configs.Above(key, n)}
				got, e := a.Point(p)
				if want, _ := other.Point(p); got != want || e != api.OK {
					t.Errorf("Point of %v in %v: %d, %v, not %d", p, c, got, e, want)
				}
			}
		}
		stacks.Hold(t, a, c, stacks.Told(other))
	}
}
