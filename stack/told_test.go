package stack_test

import (
	"math"
	"slices"
	"testing"

	"gauger/api"
	"gauger/configs"
	"gauger/either"
	"gauger/level"
	"gauger/levels"
	"gauger/shape"
	"gauger/stack"
	"gauger/stacks"
	"gauger/strewn"
)

// Of three bits and two columns, so that the levels 2 and 3 are exact: the first key of
// each level, the last one, and the first one that there is not.
func TestPointNamed(t *testing.T) {
	for _, mode := range configs.Modes() {
		// By chapter 7 the columns of the key 6 are 0 0 at level 0, and those of the key 3
		// are 1 0 at level 1.
		c := api.Config{Bits: 3, Rows: 2, Width: 2, Mode: mode, Seed: 7}
		s := stacks.Filled(c, stacks.Cells{{8, 1, 3, 2}, {2, 9, 4, 1}, {-5, 6}, {11}})
		for _, x := range []struct {
			level int
			index uint64
			want  int64
			fails api.Errno
		}{
			{0, 6, 3, api.OK}, {1, 3, 4, api.OK},
			{2, 0, -5, api.OK}, {2, 1, 6, api.OK}, {3, 0, 11, api.OK},
			{0, 8, 0, api.ErrKey}, {1, 4, 0, api.ErrKey}, {2, 2, 0, api.ErrKey}, {3, 1, 0, api.ErrKey},
			{0, 1<<63 + 6, 0, api.ErrKey}, {3, 1 << 63, 0, api.ErrKey}, {2, math.MaxUint64, 0, api.ErrKey},
			{4, 0, 0, api.ErrKey}, {-1, 0, 0, api.ErrKey}, {-1, 16, 0, api.ErrKey}, {4, 1, 0, api.ErrKey},
			{math.MaxInt, 0, 0, api.ErrKey}, {math.MinInt, 0, 0, api.ErrKey}, {1 << 32, 0, 0, api.ErrKey},
		} {
			holdPoint(t, s, api.Piece{Level: x.level, Index: x.index}, x.want, x.fails)
		}
	}
}

// The first key of each level, the last one, and some between, and those that there are
// not: as the level tells it. Nothing is changed by it.
func TestPointOfAll(t *testing.T) {
	for i, c := range stacks.All() {
		all := stacks.Strewn(c, i, uint(i%8))
		s := stacks.Filled(c, all)
		for _, n := range configs.Levels(c.Bits) {
			l := either.Filled(levels.At(c, n), all[n]...)
			for _, index := range configs.Within(configs.Count(c.Bits, n)) {
				want, fails := l.Point(index)
				if fails != api.OK {
					t.Fatalf("Point of %d at level %d of %v: %v", index, n, c, fails)
				}
				holdPoint(t, s, api.Piece{Level: n, Index: index}, want, api.OK)
			}
			for _, index := range configs.Outside(configs.Count(c.Bits, n)) {
				holdPoint(t, s, api.Piece{Level: n, Index: index}, 0, api.ErrKey)
			}
		}
		stacks.Hold(t, s, c, all)
	}
}

// Levels below 0, and beyond Bits: for each call that is handed a level.
func TestNoSuchLevel(t *testing.T) {
	for i, c := range stacks.All() {
		all := stacks.Strewn(c, i, 0)
		s := stacks.Filled(c, all)
		for _, n := range configs.Beyond(c.Bits) {
			holdNoLevel(t, s, n)
			for _, l := range [][]int64{nil, {}, {5}, all[0], all[c.Bits], make([]int64, c.Rows*c.Width)} {
				if s.Load(n, l) {
					t.Errorf("%d numbers are loaded into level %d of %v", len(l), n, c)
				}
			}
		}
		stacks.Hold(t, s, c, all)
	}
}

// Each level alone is loaded, the lowest one, the highest one, and those between: too few
// numbers, and too many, change nothing.
func TestLoad(t *testing.T) {
	for i, c := range stacks.Configs() {
		want := stacks.Strewn(c, i, 0)
		s := stacks.Filled(c, want)
		for _, n := range configs.Levels(c.Bits) {
			count := len(want[n])
			numbers := strewn.Signed(i+7, 2*count+8, 0)
			for _, other := range []int{0, 1, count - 1, count + 1, 2 * count, count / 2, count + c.Width, c.Width, c.Rows * c.Width} {
				if other != count && other < len(numbers) && s.Load(n, numbers[:other]) {
					t.Errorf("%d numbers are loaded into %d cells", other, count)
				}
			}
			if s.Load(n, nil) {
				t.Errorf("nil is loaded into %d cells", count)
			}
			stacks.Hold(t, s, c, want)
			if !s.Load(n, numbers[:count]) {
				t.Errorf("%d numbers are not loaded", count)
			}
			want[n] = numbers[:count]
			stacks.Hold(t, s, c, want)
		}
		hold(t, s, c, want)
	}
}

// What was handed to Load stays, with what lies behind it, whatever changes the stack, and
// may be written over.
func TestLoadKeepsNothing(t *testing.T) {
	for i, c := range stacks.Configs() {
		want := stacks.Strewn(c, i, 2)
		for _, n := range configs.Levels(c.Bits) {
			whole := slices.Concat(want[n], []int64{77, 78})
			was, s := slices.Clone(whole), stacks.Filled(c, want)
			if !s.Load(n, whole[:len(want[n])]) || s.Update(0, 9) != api.OK || !slices.Equal(whole, was) {
				t.Errorf("%v became %v", was, whole)
			}
			s = stacks.Filled(c, want)
			if !s.Load(n, whole[:len(want[n])]) {
				t.Errorf("%d numbers are not loaded", len(want[n]))
			}
			clear(whole)
			stacks.Hold(t, s, c, want)
		}
	}
}

// What Cells told may be written over, and made longer, and stays when the stack changes.
func TestCellsApart(t *testing.T) {
	for i, c := range stacks.Configs() {
		want := stacks.Strewn(c, i, 2)
		s := stacks.Filled(c, want)
		first, second, third := stacks.Told(s), stacks.Told(s), stacks.Told(s)
		for n := range first {
			clear(first[n])
			_ = append(third[n][:len(third[n])-1], 77)
		}
		stacks.Hold(t, s, c, want)
		if e := s.Update(0, 9); e != api.OK {
			t.Errorf("Update: %v", e)
		}
		for n := range second {
			if !slices.Equal(second[n], want[n]) {
				t.Errorf("what was told of level %d of %v became %v", n, c, second[n])
			}
			if !s.Load(n, either.Kind().Full(levels.At(c, n), 8)) || !slices.Equal(second[n], want[n]) {
				t.Errorf("what was told of level %d of %v became %v", n, c, second[n])
			}
		}
	}
}

// holdChange changes a stack with these cells by an update, and by a load of each level,
// and holds it against what is wanted; apart holds behind each change what stays.
func holdChange(t *testing.T, s *stack.Stack, c api.Config, before stacks.Cells, apart func()) {
	t.Helper()
	want, fails := after(c, before, 1, 6)
	holdUpdate(t, s, 1, 6, fails, want)
	apart()
	for _, n := range configs.Levels(c.Bits) {
		want = slices.Clone(want)
		want[n] = either.Kind().Full(levels.At(c, n), 3, lowest)
		if !s.Load(n, want[n]) {
			t.Errorf("level %d of %v is not loaded", n, c)
		}
		stacks.Hold(t, s, c, want)
		apart()
	}
}

// A copy is the same at first, and each of both changes alone.
func TestCopy(t *testing.T) {
	for i, c := range stacks.Configs() {
		before := stacks.Strewn(c, i, 2)
		s := stacks.Filled(c, before)
		o := s.Copy()
		again := o.Copy()
		hold(t, o, c, before)
		holdChange(t, o, c, before, func() { stacks.Hold(t, s, c, before) })
		changed := stacks.Told(o)
		holdChange(t, s, c, before, func() { stacks.Hold(t, o, c, changed) })
		hold(t, again, c, before)
	}
}

// A copy goes on as what was copied does, refusals among it.
func TestCopyGoesOn(t *testing.T) {
	for i, c := range stacks.All() {
		all := levels.Updates(i, configs.Count(c.Bits, 0)+1)
		s := stacks.Fed(c, levels.Taken(i, levels.At(c, 0)))
		o := s.Copy()
		for _, u := range all[:20] {
			fails := s.Update(u.Key, u.Delta)
			holdUpdate(t, o, u.Key, u.Delta, fails, stacks.Told(s))
		}
	}
}

// Cells that were told, loaded into a stack of the same config, make it the same.
func TestLoadedIsTheSame(t *testing.T) {
	for i, c := range stacks.Configs() {
		s := stacks.Fed(c, levels.Taken(i, levels.At(c, 0)))
		all := stacks.Told(s)
		o := stacks.Filled(c, all)
		hold(t, o, c, all)
		for _, u := range levels.Taken(i+3, levels.At(c, 0))[:5] {
			fails := s.Update(u.Key, u.Delta)
			holdUpdate(t, o, u.Key, u.Delta, fails, stacks.Told(s))
		}
	}
}

// at tells what At tells of a level that is there.
func at(t *testing.T, s *stack.Stack, n int) level.Level {
	t.Helper()
	l, ok := s.At(n)
	if l == nil || !ok {
		t.Fatalf("level %d of %v is %v, %t", n, s.Config(), l, ok)
	}
	return l
}

// What At tells is of the level's kind, and a copy: what is done to it leaves the stack,
// and what is done to the stack leaves it. It is told anew each time.
func TestAt(t *testing.T) {
	for i, c := range stacks.Configs() {
		before := stacks.Strewn(c, i, 2)
		for _, n := range configs.Levels(c.Bits) {
			p, s := levels.At(c, n), stacks.Filled(c, before)
			l, other := at(t, s, n), at(t, s, n)
			if is := either.What(l); is != either.KindOf(p) {
				t.Errorf("%v is %s", p, is)
			}
			levels.Hold(t, l, p, before[n])
			if e := l.Update(0, 9); e != api.OK {
				t.Errorf("Update of %v: %v", p, e)
			}
			stacks.Hold(t, s, c, before)
			if !l.Load(either.Kind().Full(p, 4, -4)) {
				t.Errorf("%v is not loaded", p)
			}
			stacks.Hold(t, s, c, before)
			levels.Hold(t, other, p, before[n])
			if e := s.Update(1, 5); e != api.OK {
				t.Errorf("Update of %v: %v", c, e)
			}
			levels.Hold(t, other, p, before[n])
			levels.Hold(t, at(t, s, n), p, s.Cells(n))
			if !s.Load(n, either.Kind().Full(p, 7)) {
				t.Errorf("level %d of %v is not loaded", n, c)
			}
			levels.Hold(t, other, p, before[n])
			levels.Hold(t, l, p, either.Kind().Full(p, 4, -4))
			levels.Hold(t, at(t, s, n), p, either.Kind().Full(p, 7))
		}
	}
}

// What one level is merged into by layer 13 leaves the stack, too.
func TestAtMerged(t *testing.T) {
	for i, c := range stacks.Configs() {
		before := stacks.Strewn(c, i, 2)
		s := stacks.Filled(c, before)
		for _, n := range configs.Levels(c.Bits) {
			l, o := at(t, s, n), at(t, s, n)
			if e := level.Merge(l, o); e != api.OK {
				t.Errorf("Merge: %v", e)
			}
			if slices.Equal(l.Cells(), o.Cells()) {
				t.Errorf("level %d of %v is not changed", n, c)
			}
			levels.Hold(t, o, levels.At(c, n), before[n])
		}
		stacks.Hold(t, s, c, before)
	}
}

func TestAtNamed(t *testing.T) {
	for _, mode := range configs.Modes() {
		c := api.Config{Bits: 3, Rows: 2, Width: 2, Mode: mode, Seed: 7}
		s := stacks.Filled(c, stacks.Cells{{8, 1, 3, 2}, {2, 9, 4, 1}, {-5, 6}, {11}})
		for n, is := range map[int]string{-1: either.None, 0: either.Sketch, 1: either.Sketch, 2: either.Array, 3: either.Array, 4: either.None} {
			l, ok := s.At(n)
			if either.What(l) != is || ok != (is != either.None) || (l == nil) == ok {
				t.Errorf("level %d is %v, %t, not %s", n, l, ok, is)
			}
		}
	}
}

// The chapter's section "What follows": Total is the sum of all that was added, whatever
// was refused between.
func TestTotal(t *testing.T) {
	for i, c := range stacks.All() {
		s, sum := made(t, c), int64(0)
		for _, u := range levels.Taken(i, levels.At(c, 0)) {
			if e := s.Update(u.Key, u.Delta); e != api.OK {
				t.Errorf("Update of %d by %d in %v: %v", u.Key, u.Delta, c, e)
			}
			sum += u.Delta
			if e := s.Update(configs.Count(c.Bits, 0), 5); e != api.ErrKey {
				t.Errorf("a key that is not there: %v", e)
			}
			if n := s.Total(); n != sum {
				t.Errorf("the total of %v is %d, not %d", c, n, sum)
			}
		}
	}
}

// The chapter's section "What follows": in the modes Linear and Median each cell of each
// level is the sum of what all keys have whose column it is; an array has a cell for each
// key, in each mode.
func TestWhatFollows(t *testing.T) {
	sketched := 0
	for i, c := range stacks.Configs() {
		// All keys are gone through, so there may be but few.
		if c.Bits > 10 {
			continue
		}
		all := levels.Taken(i, levels.At(c, 0))
		s, has := stacks.Fed(c, all), levels.Sums(configs.Count(c.Bits, 0), all)
		for _, n := range configs.Levels(c.Bits) {
			p := levels.At(c, n)
			exact := either.KindOf(p) == either.Array
			if c.Mode == api.Conservative && !exact {
				continue
			}
			want := either.Kind().Full(p, 0)
			for key, sum := range has {
				add(c, n, configs.Above(uint64(key), n), sum, want)
			}
			if got := s.Cells(n); !slices.Equal(got, want) {
				t.Errorf("level %d of %v has %v, not %v", n, c, got, want)
			}
			if !exact {
				sketched++
			}
		}
	}
	if sketched < 100 {
		t.Errorf("too few levels that are not exact: %d", sketched)
	}
}

// add adds the sum to the cells of the level that are the key's.
func add(c api.Config, n int, key uint64, sum int64, want []int64) {
	if either.KindOf(levels.At(c, n)) == either.Array {
		want[key] += sum
		return
	}
	for row, col := range shape.Columns(c, n, key) {
		want[row*c.Width+col] += sum
	}
}
