package heavy_test

import (
	"cmp"
	"math"
	"slices"
	"testing"

	"gauger/api"
	"gauger/configs"
	"gauger/heavy"
	"gauger/levels"
	"gauger/shape"
	"gauger/stack"
	"gauger/stacks"
	"gauger/strewn"
)

const (
	lowest  = math.MinInt64
	highest = math.MaxInt64
)

// found tells a piece with what is told of it.
func found(level int, index uint64, n int64) heavy.Found {
	return heavy.Found{P: api.Piece{Level: level, Index: index}, N: n}
}

// hold holds what Heavy tells of numbers from least on, and that just so many pieces are
// asked for that: with a budget of so many, and with more, but not with one less, nor with
// much less.
func hold(t *testing.T, s *stack.Stack, least int64, asked int, want ...heavy.Found) {
	t.Helper()
	for _, budget := range []int{asked, min(asked+1, api.MaxBudget), api.MaxBudget} {
		if got, e := heavy.Heavy(s, least, budget); !slices.Equal(got, want) || e != api.OK {
			t.Errorf("Heavy of %d in %v, with %d: %v, %v, not %v", least, s.Config(), budget, got, e, want)
		}
	}
	holdRefused(t, s, least, asked-1, api.ErrBudget)
	holdRefused(t, s, least, asked/2, api.ErrBudget)
}

// holdRefused holds that neither call tells anything but the error.
func holdRefused(t *testing.T, s *stack.Stack, least int64, budget int, fails api.Errno) {
	t.Helper()
	if got, e := heavy.Heavy(s, least, budget); len(got) != 0 || e != fails {
		t.Errorf("Heavy of %d in %v, with %d: %v, %v, not %v", least, s.Config(), budget, got, e, fails)
	}
	if got, e := heavy.Hier(s, least, budget); len(got) != 0 || e != fails {
		t.Errorf("Hier of %d in %v, with %d: %v, %v, not %v", least, s.Config(), budget, got, e, fails)
	}
}

// The chapter's example, in each mode: of exact levels of two bits, and the keys 1 and 2
// that have 5 and 3.
func TestExample(t *testing.T) {
	for _, mode := range configs.Modes() {
		for _, width := range []int{4, 5, 128} {
			c := api.Config{Bits: 2, Rows: 2, Width: width, Mode: mode, Seed: 5}
			s := stacks.Fed(c, []api.Update{{Key: 2, Delta: 1}, {Key: 1, Delta: 5}, {Key: 2, Delta: 2}})
			hold(t, s, 4, 5, found(2, 0, 8), found(1, 0, 5), found(0, 1, 5))
			holdKept(t, s, 3, 7, kept(0, 1, 5, 5), kept(0, 2, 3, 3))
		}
	}
}

// Of three bits, all levels of which are exact: each piece has another number, and no piece
// what its halves have. The last two keys have much, but their piece has not.
func TestNamed(t *testing.T) {
	cells := stacks.Cells{{1, 2, -3, 14, 5, 6, 70, 80}, {11, 12, 13, -14}, {21, 22}, {31}}
	for _, mode := range configs.Modes() {
		c := stacks.Own(3, mode)
		s := stacks.Filled(c, cells)
		top, left, right := found(3, 0, 31), found(2, 0, 21), found(2, 1, 22)
		first, second, third := found(1, 0, 11), found(1, 1, 12), found(1, 2, 13)
		for _, x := range []struct {
			from, to int64
			asked    int
			want     []heavy.Found
		}{
			{1, 1, 13, []heavy.Found{top, left, right, first, second, third, found(0, 0, 1), found(0, 1, 2), found(0, 3, 14), found(0, 4, 5), found(0, 5, 6)}},
			{2, 2, 13, []heavy.Found{top, left, right, first, second, third, found(0, 1, 2), found(0, 3, 14), found(0, 4, 5), found(0, 5, 6)}},
			{3, 5, 13, []heavy.Found{top, left, right, first, second, third, found(0, 3, 14), found(0, 4, 5), found(0, 5, 6)}},
			{6, 6, 13, []heavy.Found{top, left, right, first, second, third, found(0, 3, 14), found(0, 5, 6)}},
			{7, 11, 13, []heavy.Found{top, left, right, first, second, third, found(0, 3, 14)}},
			{12, 12, 11, []heavy.Found{top, left, right, second, third, found(0, 3, 14)}},
			{13, 13, 9, []heavy.Found{top, left, right, third}},
			{14, 21, 7, []heavy.Found{top, left, right}},
			{22, 22, 5, []heavy.Found{top, right}},
			{23, 31, 3, []heavy.Found{top}},
			{32, 90, 1, nil},
		} {
			for least := x.from; least <= x.to; least++ {
				hold(t, s, least, x.asked, x.want...)
			}
		}
		hold(t, s, highest, 1)
		stacks.Hold(t, s, c, cells)
	}
}

// A piece is told by cells that it shares, as its mode does it, and asked as one that is told
// that; the columns were reckoned apart from this program.
func TestSharedCells(t *testing.T) {
	tried, told := 0, []int64{5, 3, 9, 7, 4, 6, 8, 10}
	for _, x := range configs.Known() {
		c := x.Config
		// With few rows others have all of the columns, too.
		if c.Rows < 4 || x.Level >= configs.Exact(c) {
			continue
		}
		tried++
		key := x.Key << x.Level
		s := stacks.Fed(c, []api.Update{{Key: key, Delta: 100}})
		cells := stacks.Full(c, 0)
		for row, col := range x.Cols {
			cells[x.Level][row*c.Width+col] = told[row]
		}
		if !s.Load(x.Level, cells[x.Level]) {
			t.Fatalf("level %d of %v is not loaded", x.Level, c)
		}
		numbers := slices.Sorted(slices.Values(told[:c.Rows]))
		n := numbers[0]
		if c.Mode == api.Median {
			n = numbers[(c.Rows-1)/2]
		}
		path := onPath(c.Bits, key, 100)
		above := c.Bits - x.Level
		path[above].N = n
		for least := int64(1); least <= n; least++ {
			hold(t, s, least, 1+2*c.Bits, path...)
		}
		for _, least := range []int64{n + 1, n + 2, 99, 100} {
			hold(t, s, least, 1+2*above, path[:above]...)
		}
		hold(t, s, 101, 1)
	}
	if tried < 12 {
		t.Errorf("only %d pieces are tried", tried)
	}
}

// onPath tells the pieces in which the key lies, from that of all keys on, each with n.
func onPath(bits int, key uint64, n int64) []heavy.Found {
	var all []heavy.Found
	for _, level := range configs.Levels(bits) {
		all = append(all, found(level, configs.Above(key, level), n))
	}
	slices.Reverse(all)
	return all
}

// One key alone has something: of each number of bits, the least and the greatest among
// them, the pieces in which it lies are told, and for that both halves of each are asked.
func TestOneKey(t *testing.T) {
	for bits := 1; bits <= api.MaxBits; bits++ {
		for _, mode := range configs.Modes() {
			c := api.Config{Bits: bits, Rows: 8, Width: 128, Mode: mode, Seed: uint64(bits)}
			for i, key := range configs.Within(configs.Count(bits, 0))[:5] {
				n := []int64{1, highest, highest - 1, 1 << 55, 77}[(i+bits)%5]
				s := stacks.Fed(c, []api.Update{{Key: key, Delta: n}})
				before := stacks.Told(s)
				for _, least := range []int64{1, n/2 + 1, n} {
					hold(t, s, least, 1+2*bits, onPath(bits, key, n)...)
					holdKept(t, s, least, 1+2*bits, kept(0, key, n, n))
				}
				if n < highest {
					hold(t, s, n+1, 1)
					holdKept(t, s, n+1, 1)
				}
				stacks.Hold(t, s, c, before)
			}
		}
	}
}

// whole tells all pieces of the highest levels, each level's with its number, one behind
// another from the highest level on.
func whole(bits int, numbers ...int64) []heavy.Found {
	var all []heavy.Found
	for depth, n := range numbers {
		for index := range uint64(1) << depth {
			all = append(all, found(bits-depth, index, n))
		}
	}
	return all
}

// All pieces of the highest levels are told just least, or more, and those of the next level
// one less, or much less: these are asked, but none below them, however much these have.
// Where they are the pieces of level 0, none of which has halves, all are told.
func TestLeastOfWholeLevels(t *testing.T) {
	for i, c := range stacks.All() {
		for depth := 0; depth <= min(c.Bits+1, 12); depth++ {
			least := []int64{1, 2, 77, 1 << 40, highest - 1, highest}[(i+depth)%6]
			for _, less := range []int64{least - 1, []int64{0, -1, -least, lowest}[i%4]} {
				// From the highest level on.
				numbers := slices.Repeat([]int64{least, highest}, c.Bits+1)[:c.Bits+1]
				if depth <= c.Bits {
					numbers[depth] = less
				}
				upward := slices.Clone(numbers)
				slices.Reverse(upward)
				cells := stacks.Each(c, upward...)
				s := stacks.Filled(c, cells)
				asked := 1<<min(depth+1, c.Bits+1) - 1
				if asked > api.MaxBudget {
					holdRefused(t, s, least, api.MaxBudget, api.ErrBudget)
				} else {
					hold(t, s, least, asked, whole(c.Bits, numbers[:depth]...)...)
				}
				stacks.Hold(t, s, c, cells)
			}
		}
	}
}

// All keys have much: of as many as may be they are told, of more the budget is never
// enough, and it ends soon, however many there are.
func TestAllKeys(t *testing.T) {
	for bits := 1; bits <= api.MaxBits; bits++ {
		for _, mode := range configs.Modes() {
			for _, width := range []int{1, 128} {
				c := api.Config{Bits: bits, Rows: 2, Width: width, Mode: mode, Seed: 7}
				s := stacks.Filled(c, stacks.Full(c, 5))
				if bits > 11 {
					holdRefused(t, s, 5, api.MaxBudget, api.ErrBudget)
				} else if bits < 8 || bits == 11 {
					hold(t, s, 5, 1<<(bits+1)-1, whole(bits, slices.Repeat([]int64{5}, bits+1)...)...)
				}
				hold(t, s, 6, 1)
			}
		}
	}
}

// As many pieces are asked as MaxBudget lets be asked, 4095, as their number is odd, and two
// more: all of the levels from 2 on have much, and none of level 1, or one.
func TestGreatestBudget(t *testing.T) {
	for _, mode := range configs.Modes() {
		c := api.Config{Bits: 12, Rows: 8, Width: 128, Mode: mode, Seed: 7}
		numbers := slices.Repeat([]int64{9}, 13)
		numbers[0], numbers[1] = 0, 0
		for _, key := range []uint64{0, 1000, 2047} {
			s := stacks.Filled(c, stacks.Each(c, numbers...))
			hold(t, s, 9, 4095, whole(12, numbers[2:]...)...)
			plant(t, s, found(1, key, 9))
			for _, budget := range []int{4096, 4095, 4094} {
				holdRefused(t, s, 9, budget, api.ErrBudget)
			}
			holdRefused(t, s, 9, 4097, api.ErrArg)
		}
	}
}

// plant puts numbers above 0 into the cells of some pieces, so that these are told them. If
// rows are many, and pieces few, none of the others is told more than before.
func plant(t *testing.T, s *stack.Stack, all ...heavy.Found) {
	t.Helper()
	c := s.Config()
	for _, f := range all {
		cells := s.Cells(f.P.Level)
		if shape.Exact(c, f.P.Level) {
			cells[f.P.Index] = f.N
		} else {
			// Where two share a cell, the greater number is that of few of the cells of the
			// piece that is to be told the lesser one.
			for row, col := range shape.Columns(c, f.P.Level, f.P.Index) {
				cells[row*c.Width+col] = max(cells[row*c.Width+col], f.N)
			}
		}
		s.Load(f.P.Level, cells)
	}
	for _, f := range all {
		if n, e := s.Point(f.P); n != f.N || e != api.OK {
			t.Fatalf("%v in %v is told %d, %v", f, c, n, e)
		}
	}
}

// planted tells the stack of the config of which these pieces are told these numbers, and
// all others 0.
func planted(t *testing.T, c api.Config, all ...heavy.Found) *stack.Stack {
	t.Helper()
	s := stacks.Fed(c, nil)
	plant(t, s, all...)
	return s
}

// A least that is below 1, or a budget above the greatest one, comes ahead of all else:
// whatever the stack has, and whether the budget is enough or not.
func TestRefused(t *testing.T) {
	under, over := []int64{0, -1, -2, -77, -1 << 32, lowest, lowest + 1}, []int{4097, 4098, 8192, 1 << 32, 1<<32 + 1, math.MaxInt - 1, math.MaxInt}
	for i, c := range stacks.All() {
		for _, n := range []int64{highest, 0, -1, lowest} {
			cells := stacks.Full(c, n)
			s := stacks.Filled(c, cells)
			for _, least := range under {
				for _, budget := range slices.Concat(over, []int{4096, 4095, 119, 1, 0, -1, math.MinInt}) {
					holdRefused(t, s, least, budget, api.ErrArg)
				}
			}
			for _, least := range []int64{1, 2, 77, highest - 1, highest} {
				holdRefused(t, s, least, over[i%len(over)], api.ErrArg)
				holdRefused(t, s, least, 4097, api.ErrArg)
				for _, budget := range []int{0, -1, -2, -77, -4096, -1 << 32, math.MinInt + 1, math.MinInt} {
					holdRefused(t, s, least, budget, api.ErrBudget)
				}
			}
			stacks.Hold(t, s, c, cells)
		}
	}
}

// leasts tells numbers of which some are told of few pieces, some of many, and some of none:
// the least and the greatest one, and those that are told of pieces of all levels, just so
// and one more.
func leasts(s *stack.Stack, i int) []int64 {
	c := s.Config()
	some := []int64{1, 2, highest, s.Total() / 3, s.Total() / 30}
	numbers := strewn.Numbers(i + 6)[i:]
	for j, x := range numbers {
		level := (i + j) % (c.Bits + 1)
		// Such as are told of the key 0 are asked most surely, those of others not.
		for _, index := range []uint64{0, x % configs.Count(c.Bits, level)} {
			n, _ := s.Point(api.Piece{Level: level, Index: index})
			some = append(some, n)
			if n < highest {
				some = append(some, n+1)
			}
		}
	}
	slices.Sort(some)
	return slices.DeleteFunc(slices.Compact(some), func(n int64) bool { return n < 1 })
}

// reckoned tells, one piece within another, what is told of a stack's pieces, and how many
// pieces are asked; at least one more than MaxBudget, if they are more than that.
func reckoned(t *testing.T, s *stack.Stack, least int64) ([]heavy.Found, int) {
	t.Helper()
	var told []heavy.Found
	asked := 0
	var ask func(level int, index uint64)
	ask = func(level int, index uint64) {
		n, e := s.Point(api.Piece{Level: level, Index: index})
		if e != api.OK {
			t.Fatalf("Point of (%d, %d) in %v: %v", level, index, s.Config(), e)
		}
		if asked++; n < least || asked > api.MaxBudget {
			return
		}
		told = append(told, found(level, index, n))
		if level > 0 {
			ask(level-1, index+index)
			ask(level-1, index+index+1)
		}
	}
	ask(s.Config().Bits, 0)
	slices.SortFunc(told, func(a, b heavy.Found) int {
		return cmp.Or(cmp.Compare(b.P.Level, a.P.Level), cmp.Compare(a.P.Index, b.P.Index))
	})
	return told, asked
}

// Of strewn numbers, as of those that were fed, in each mode, whichever levels are exact:
// what is told one piece within another, or more pieces than may be asked.
func TestOfAll(t *testing.T) {
	answers := stacks.Answers{}
	for i, c := range stacks.All() {
		for _, s := range append(stacks.Rough(c, i), stacks.Fed(c, levels.Taken(i, levels.At(c, 0)))) {
			before := stacks.Told(s)
			for _, least := range leasts(s, i) {
				want, asked := reckoned(t, s, least)
				if asked > api.MaxBudget {
					holdRefused(t, s, least, api.MaxBudget, api.ErrBudget)
					answers.Add(c, api.ErrBudget)
				} else {
					hold(t, s, least, asked, want...)
					answers.Add(c, api.OK)
				}
			}
			stacks.Hold(t, s, c, before)
		}
	}
	answers.HoldMany(t, api.OK, 300, stacks.AllExact, stacks.SomeExact, stacks.OneExact)
	answers.HoldMany(t, api.ErrBudget, 10, stacks.SomeExact, stacks.OneExact)
}

// By the words of P2: of each piece that there is, be it asked or not, it is told, if it is
// told not less than least, and lies in none that is told less.
func TestEachPiece(t *testing.T) {
	answers := stacks.Answers{}
	for i, c := range stacks.Configs() {
		if c.Bits > 7 {
			continue
		}
		for _, s := range append(stacks.Rough(c, i), stacks.Fed(c, levels.Taken(i, levels.At(c, 0)))) {
			for _, least := range leasts(s, i) {
				var want []heavy.Found
				for level := c.Bits; level >= 0; level-- {
					for index := range configs.Count(c.Bits, level) {
						if n, much := among(s, level, index, least); much {
							want = append(want, found(level, index, n))
						}
					}
				}
				if got, e := heavy.Heavy(s, least, api.MaxBudget); !slices.Equal(got, want) || e != api.OK {
					t.Errorf("Heavy of %d in %v: %v, %v, not %v", least, c, got, e, want)
				}
				answers.Add(c, api.OK)
			}
		}
	}
	answers.HoldMany(t, api.OK, 100, stacks.AllExact, stacks.SomeExact, stacks.OneExact)
}

// among tells what the piece is told, and whether it, and each one in which it lies, is told
// not less than least.
func among(s *stack.Stack, level int, index uint64, least int64) (int64, bool) {
	n, _ := s.Point(api.Piece{Level: level, Index: index})
	for m := n; m >= least; m, _ = s.Point(api.Piece{Level: level, Index: index}) {
		if level == s.Config().Bits {
			return n, true
		}
		level, index = level+1, index/2
	}
	return n, false
}

// What was told is the caller's: it may be written over, and made longer, and stays when
// others are told, and when the stack changes. It is told anew each time.
func TestApart(t *testing.T) {
	for i, c := range stacks.All() {
		s := stacks.Fed(c, []api.Update{{Key: configs.Last(c.Bits) / 3, Delta: 9}})
		told, asked := reckoned(t, s, 9)
		if asked > api.MaxBudget {
			continue
		}
		before := stacks.Told(s)
		all, _ := heavy.Heavy(s, 9, asked)
		rests, _ := heavy.Hier(s, 9, asked)
		want := slices.Clone(rests)
		holdStay := func() {
			t.Helper()
			if !slices.Equal(all, told) || !slices.Equal(rests, want) {
				t.Errorf("what was told of %v became %v, and %v", c, all, rests)
			}
		}
		for range 2 {
			others, _ := heavy.Heavy(s, 9, asked)
			clear(others)
			_ = append(others[:len(others)-1], found(77, 7, 7))
			other, _ := heavy.Hier(s, 9, asked)
			clear(other)
			_ = append(other[:0], kept(77, 7, 7, 7))
			holdStay()
			hold(t, s, 9, asked, told...)
			holdKept(t, s, 9, asked, want...)
		}
		stacks.Hold(t, s, c, before)
		if !s.Load(c.Bits, []int64{int64(10 + i)}) || s.Update(0, 5) != api.OK {
			t.Fatalf("%v is not changed", c)
		}
		holdStay()
		heavy.Hier(s, 1, asked)
		holdStay()
	}
}

// Each stack is asked for itself: of two that have the same config each tells its own.
func TestStacksApart(t *testing.T) {
	for _, mode := range configs.Modes() {
		for _, bits := range []int{1, 7, 8, 59} {
			c := api.Config{Bits: bits, Rows: 8, Width: 128, Mode: mode, Seed: 3}
			end := configs.Last(bits)
			one, other := stacks.Fed(c, []api.Update{{Key: end, Delta: 9}}), stacks.Fed(c, []api.Update{{Key: 0, Delta: 8}})
			for range 2 {
				hold(t, one, 8, 1+2*bits, onPath(bits, end, 9)...)
				hold(t, other, 8, 1+2*bits, onPath(bits, 0, 8)...)
				hold(t, other, 9, 1)
				holdKept(t, one, 8, 1+2*bits, kept(0, end, 9, 9))
				holdKept(t, other, 8, 1+2*bits, kept(0, 0, 8, 8))
			}
		}
	}
}
