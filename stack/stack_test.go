package stack_test

import (
	"math"
	"slices"
	"testing"

	"gauger/api"
	"gauger/configs"
	"gauger/either"
	"gauger/levels"
	"gauger/shape"
	"gauger/stack"
	"gauger/stacks"
	"gauger/strewn"
)

const (
	lowest  = math.MinInt64
	highest = math.MaxInt64
)

// made tells the stack of a config that is right.
func made(t *testing.T, c api.Config) *stack.Stack {
	t.Helper()
	s, e := stack.New(c)
	if s == nil || e != api.OK {
		t.Fatalf("New of %v: %v, %v", c, s, e)
	}
	return s
}

// holdNoLevel holds that there is no such level.
func holdNoLevel(t *testing.T, s *stack.Stack, n int) {
	t.Helper()
	if l := s.Cells(n); len(l) != 0 {
		t.Errorf("level %d has %v", n, l)
	}
	if l, ok := s.At(n); l != nil || ok {
		t.Errorf("level %d is %v, %t", n, l, ok)
	}
	for _, index := range []uint64{0, 1, math.MaxUint64} {
		holdPoint(t, s, api.Piece{Level: n, Index: index}, 0, api.ErrKey)
	}
}

// hold holds all that a stack tells of itself against what is wanted.
func hold(t *testing.T, s *stack.Stack, c api.Config, want stacks.Cells) {
	t.Helper()
	stacks.Hold(t, s, c, want)
	for n, l := range want {
		p := levels.At(c, n)
		got, ok := s.At(n)
		if !ok || either.What(got) != either.KindOf(p) {
			t.Fatalf("%v is %s, %t", p, either.What(got), ok)
		}
		levels.Hold(t, got, p, l)
	}
	holdNoLevel(t, s, -1)
	holdNoLevel(t, s, c.Bits+1)
}

// holdPoint holds what is told of the piece against what is wanted.
func holdPoint(t *testing.T, s *stack.Stack, p api.Piece, want int64, fails api.Errno) {
	t.Helper()
	if n, e := s.Point(p); n != want || e != fails {
		t.Errorf("Point of %v in %v: %d, %v, not %d, %v", p, s.Config(), n, e, want, fails)
	}
}

// holdUpdate updates the key by d, and holds the cells behind it against what is wanted.
func holdUpdate(t *testing.T, s *stack.Stack, key uint64, d int64, fails api.Errno, want stacks.Cells) {
	t.Helper()
	if e := s.Update(key, d); e != fails {
		t.Errorf("Update of %d by %d in %v: %v, not %v", key, d, s.Config(), e, fails)
	}
	stacks.Hold(t, s, s.Config(), want)
}

// after tells, level by level by what layer 13 does, what an update by d answers, and the
// cells behind it.
func after(c api.Config, all stacks.Cells, key uint64, d int64) (stacks.Cells, api.Errno) {
	if key >= configs.Count(c.Bits, 0) {
		return all, api.ErrKey
	}
	if c.Mode == api.Conservative && d < 0 {
		return all, api.ErrMode
	}
	var behind stacks.Cells
	for n, numbers := range all {
		l := either.Filled(levels.At(c, n), numbers...)
		if e := l.Update(configs.Above(key, n), d); e != api.OK {
			return all, e
		}
		behind = append(behind, l.Cells())
	}
	return behind, api.OK
}

// The chapter's example.
func TestExample(t *testing.T) {
	for _, mode := range []int{api.Linear, api.Median} {
		for width := 1; width <= 5; width++ {
			s := made(t, api.Config{Bits: 2, Rows: 3, Width: width, Mode: mode, Seed: 5})
			for _, u := range []api.Update{{Key: 3, Delta: 5}, {Key: 0, Delta: -2}} {
				if e := s.Update(u.Key, u.Delta); e != api.OK {
					t.Errorf("Update: %v", e)
				}
			}
			if n := s.Total(); n != 3 {
				t.Errorf("Total: %d", n)
			}
			holdPoint(t, s, api.Piece{Level: 2, Index: 0}, 3, api.OK)
			if width > 1 {
				holdPoint(t, s, api.Piece{Level: 1, Index: 1}, 5, api.OK)
			}
		}
	}
}

func TestNew(t *testing.T) {
	for _, c := range configs.Right() {
		// The greatest ones are all alike, but for their seeds.
		if c.Bits < 33 || c.Seed == 99 {
			hold(t, made(t, c), c, stacks.Full(c, 0))
		}
	}
	for _, c := range stacks.All() {
		hold(t, made(t, c), c, stacks.Full(c, 0))
	}
}

func TestNewNamed(t *testing.T) {
	for _, x := range []struct {
		name  string
		c     api.Config
		fails api.Errno
	}{
		{"the least", api.Config{Bits: 1, Rows: 1, Width: 1, Mode: api.Linear}, api.OK},
		{"the greatest", api.Config{Bits: 59, Rows: 8, Width: 128, Mode: api.Median, Seed: math.MaxUint64}, api.OK},
		{"the empty config", api.Config{}, api.ErrArg},
		{"no bits", api.Config{Rows: 2, Width: 2, Mode: api.Linear}, api.ErrArg},
		{"bits below 0", api.Config{Bits: -1, Rows: 2, Width: 2, Mode: api.Linear}, api.ErrArg},
		{"a bit too much", api.Config{Bits: 60, Rows: 2, Width: 2, Mode: api.Linear}, api.ErrArg},
		{"the most bits", api.Config{Bits: math.MaxInt, Rows: 2, Width: 2, Mode: api.Linear}, api.ErrArg},
		{"no rows", api.Config{Bits: 3, Width: 2, Mode: api.Linear}, api.ErrArg},
		{"a row too much", api.Config{Bits: 3, Rows: 9, Width: 2, Mode: api.Linear}, api.ErrArg},
		{"no columns", api.Config{Bits: 3, Rows: 2, Mode: api.Linear}, api.ErrArg},
		{"a column too much", api.Config{Bits: 3, Rows: 2, Width: 129, Mode: api.Linear}, api.ErrArg},
		{"no mode", api.Config{Bits: 3, Rows: 2, Width: 2}, api.ErrArg},
		{"a mode too much", api.Config{Bits: 3, Rows: 2, Width: 2, Mode: 4}, api.ErrArg},
	} {
		t.Run(x.name, func(t *testing.T) {
			s, e := stack.New(x.c)
			if e != x.fails || (s != nil) != (e == api.OK) {
				t.Fatalf("New of %v: %v, %v", x.c, s, e)
			}
			if s != nil {
				hold(t, s, x.c, stacks.Full(x.c, 0))
			}
		})
	}
}

func TestNewOfNone(t *testing.T) {
	for _, c := range configs.Wrong() {
		if s, e := stack.New(c); s != nil || e != api.ErrArg {
			t.Errorf("New of %v: %v, %v", c, s, e)
		}
	}
}

// Of stacks of one config each changes alone.
func TestMadeApart(t *testing.T) {
	for _, c := range stacks.Configs() {
		s, o := made(t, c), made(t, c)
		want, _ := after(c, stacks.Full(c, 0), 0, 4)
		holdUpdate(t, s, 0, 4, api.OK, want)
		stacks.Hold(t, o, c, stacks.Full(c, 0))
		other, _ := after(c, stacks.Full(c, 0), 1, 7)
		holdUpdate(t, o, 1, 7, api.OK, other)
		stacks.Hold(t, s, c, want)
		stacks.Hold(t, made(t, c), c, stacks.Full(c, 0))
	}
}

// Of three bits, all levels of which are exact: what each mode does, one update behind
// another.
func TestUpdateNamed(t *testing.T) {
	for _, x := range []struct {
		key                uint64
		d                  int64
		sums, conservative api.Errno
	}{
		{6, 5, api.OK, api.OK},
		{0, 3, api.OK, api.OK},
		{7, 1, api.OK, api.OK},
		{7, 0, api.OK, api.OK},
		{6, -7, api.OK, api.ErrMode},
		{7, -1, api.OK, api.ErrMode},
		{8, 1, api.ErrKey, api.ErrKey},
		{8, 0, api.ErrKey, api.ErrKey},
		{8, -1, api.ErrKey, api.ErrKey},
		{8, lowest, api.ErrKey, api.ErrKey},
		{1 << 32, 1, api.ErrKey, api.ErrKey},
		{math.MaxUint64, highest, api.ErrKey, api.ErrKey},
		{4, highest, api.ErrOverflow, api.ErrOverflow},
		{4, highest - 9, api.OK, api.OK},
	} {
		for _, mode := range configs.Modes() {
			c := api.Config{Bits: 3, Rows: 2, Width: 8, Mode: mode, Seed: 9}
			before := stacks.Cells{{3, 0, 0, 0, 0, 0, 5, 1}, {3, 0, 0, 6}, {3, 6}, {9}}
			s, fails := stacks.Filled(c, before), x.sums
			if mode == api.Conservative {
				fails = x.conservative
			}
			if fails == api.OK {
				for n, l := range before {
					l[configs.Above(x.key, n)] += x.d
				}
			}
			holdUpdate(t, s, x.key, x.d, fails, before)
		}
	}
}

// The columns that are wanted here were reckoned apart from this program: of a level's key
// all keys of level 0 that belong to it, be it the first one, the last one, or between.
func TestColumnsOfAKey(t *testing.T) {
	for _, x := range configs.Known() {
		p, many := levels.At(x.Config, x.Level), configs.Count(x.Level, 0)
		for _, key := range configs.Within(many) {
			s, want := made(t, x.Config), either.Kind().Full(p, 0)
			if e := s.Update(x.Key*many+key, 5); e != api.OK {
				t.Errorf("Update: %v", e)
			}
			if either.KindOf(p) == either.Array {
				want[x.Key] = 5
			} else {
				for row, col := range x.Cols {
					want[row*x.Config.Width+col] = 5
				}
			}
			if got := s.Cells(x.Level); !slices.Equal(got, want) {
				t.Errorf("%v has %v, not %v", p, got, want)
			}
			holdPoint(t, s, api.Piece{Level: x.Level, Index: x.Key}, 5, api.OK)
		}
	}
}

// The last key, the first one, and some between are updated at all levels; those that
// there are not at none, whatever they are updated by.
func TestKeys(t *testing.T) {
	for _, c := range stacks.All() {
		count := configs.Count(c.Bits, 0)
		for _, key := range configs.Within(count) {
			s := made(t, c)
			for _, d := range []int64{9, 0, 4} {
				want, fails := after(c, stacks.Told(s), key, d)
				if fails != api.OK {
					t.Fatalf("the levels of %v refuse %d of %d: %v", c, d, key, fails)
				}
				holdUpdate(t, s, key, d, api.OK, want)
			}
		}
		s, want := stacks.Filled(c, stacks.Full(c, 7, highest, lowest)), stacks.Full(c, 7, highest, lowest)
		for _, key := range configs.Outside(count) {
			for _, d := range []int64{0, 1, -1, highest, lowest} {
				holdUpdate(t, s, key, d, api.ErrKey, want)
			}
		}
	}
}

// At each level alone a sum does not fit, and with one less it does: at the lowest level,
// at the highest one, and between.
func TestNoRoomAtOneLevel(t *testing.T) {
	for _, c := range stacks.Configs() {
		for _, n := range configs.Levels(c.Bits) {
			for _, key := range []uint64{0, configs.Count(c.Bits, 0) / 2, configs.Last(c.Bits)} {
				holdRoom(t, c, n, key, highest, 1)
				if c.Mode != api.Conservative {
					holdRoom(t, c, n, key, lowest, -1)
				}
			}
		}
	}
}

// holdRoom holds that an update by d, which is 1 or -1, is refused at all levels, if the
// cells of level n are at this end of what fits, be the other levels' cells in the middle
// of it, or at the other end; just one from the end they are not.
func holdRoom(t *testing.T, c api.Config, n int, key uint64, end, d int64) {
	t.Helper()
	for _, other := range []int64{0, ^end} {
		before := stacks.Full(c, other)
		before[n] = either.Kind().Full(levels.At(c, n), end)
		s := stacks.Filled(c, before)
		holdUpdate(t, s, key, d, api.ErrOverflow, before)
		// By nothing no sum grows.
		holdUpdate(t, s, key, 0, api.OK, before)
		before[n] = either.Kind().Full(levels.At(c, n), end-d)
		want, fails := after(c, before, key, d)
		if fails != api.OK || slices.Equal(want[n], before[n]) {
			t.Fatalf("the levels of %v do not take %d of %d: %v", c, d, key, fails)
		}
		holdUpdate(t, stacks.Filled(c, before), key, d, api.OK, want)
	}
}

// One cell of a key without room is enough, in whichever row of whichever level it is: but
// in the mode Conservative the least one counts alone.
func TestNoRoomInOneCell(t *testing.T) {
	count := map[api.Errno]int{}
	for i, c := range stacks.Configs() {
		key := configs.Within(configs.Count(c.Bits, 0))[i%5]
		for _, n := range configs.Levels(c.Bits) {
			if either.KindOf(levels.At(c, n)) == either.Array {
				continue
			}
			for row, col := range shape.Columns(c, n, configs.Above(key, n)) {
				before := stacks.Full(c, 0)
				before[n][row*c.Width+col] = highest
				want, fails := after(c, before, key, 1)
				if (fails == api.OK) != (c.Mode == api.Conservative && c.Rows > 1) {
					t.Errorf("level %d of %v, without room in row %d: %v", n, c, row, fails)
				}
				holdUpdate(t, stacks.Filled(c, before), key, 1, fails, want)
				count[fails]++
			}
		}
	}
	if len(count) != 2 || count[api.OK] < 100 || count[api.ErrOverflow] < 100 {
		t.Errorf("too few of some answers: %v", count)
	}
}

// A key that is not there comes ahead of the mode, and this ahead of what does not fit, be
// it at the level that is asked first, or last, or between.
func TestErrorsInTheirOrder(t *testing.T) {
	for _, c := range stacks.Configs() {
		count := configs.Count(c.Bits, 0)
		for _, turns := range [][]int64{{highest}, {lowest}} {
			for _, n := range configs.Levels(c.Bits) {
				before := stacks.Full(c, 0)
				before[n] = either.Kind().Full(levels.At(c, n), turns...)
				s := stacks.Filled(c, before)
				holdUpdate(t, s, count, lowest, api.ErrKey, before)
				holdUpdate(t, s, count, -1, api.ErrKey, before)
				holdUpdate(t, s, count, highest, api.ErrKey, before)
				if c.Mode == api.Conservative {
					holdUpdate(t, s, count-1, -1, api.ErrMode, before)
					holdUpdate(t, s, 0, lowest, api.ErrMode, before)
				} else if turns[0] == lowest {
					holdUpdate(t, s, count-1, -1, api.ErrOverflow, before)
				}
			}
		}
	}
}

// Strewn updates, one behind another, of which some are refused, held against the levels
// of layer 13.
func TestUpdateOfAll(t *testing.T) {
	answers := map[api.Errno]int{}
	for i, c := range stacks.All() {
		s, want := made(t, c), stacks.Full(c, 0)
		keys := strewn.Numbers(i + 40)[i:]
		for turn, d := range strewn.Signed(i, 40, uint(i%6)) {
			// Of twice as many keys as there are.
			key := keys[turn] % (2 * configs.Count(c.Bits, 0))
			var fails api.Errno
			want, fails = after(c, want, key, d)
			holdUpdate(t, s, key, d, fails, want)
			answers[fails]++
		}
		hold(t, s, c, want)
	}
	if len(answers) != 4 || answers[api.OK] < 200 || answers[api.ErrKey] < 200 || answers[api.ErrMode] < 200 || answers[api.ErrOverflow] < 200 {
		t.Errorf("too few of some answers, or others: %v", answers)
	}
}
