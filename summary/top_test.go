package summary_test

import (
	"math"
	"slices"
	"testing"

	"gauger/api"
	"gauger/configs"
	"gauger/heavy"
	"gauger/stack"
	"gauger/stacks"
	"gauger/summary"
)

// single tells the piece of a key alone with what is told of it.
func single(key uint64, n int64) heavy.Found {
	return heavy.Found{P: api.Piece{Index: key}, N: n}
}

// hold holds what Top tells of numbers from least on, if it is asked for all, for more, and
// for less, and that just so many pieces are asked for that, however few are wanted: with a
// budget of so many, or with more, but not with one less.
func hold(t *testing.T, s *stack.Stack, least int64, asked int, all ...heavy.Found) {
	t.Helper()
	budgets := []int{asked, min(asked+1, api.MaxBudget), api.MaxBudget}
	for i, n := range []int{math.MinInt, -1, 0, 1, len(all) / 2, len(all) - 1, len(all), len(all) + 1, math.MaxInt} {
		want := all
		if n < 1 {
			want = nil
		} else if n < len(all) {
			want = all[:n]
		}
		budget := budgets[i%3]
		if got, e := summary.Top(s, n, least, budget); !slices.Equal(got, want) || e != api.OK {
			t.Errorf("Top %d of %d in %v, with %d: %v, %v, not %v", n, least, s.Config(), budget, got, e, want)
		}
		if i%3 == 0 {
			holdNoTop(t, s, n, least, asked-1, api.ErrBudget)
		}
		holdNoTop(t, s, n, least, api.MaxBudget+1, api.ErrArg)
		holdNoTop(t, s, n, 0, asked, api.ErrArg)
		holdNoTop(t, s, n, -least, asked, api.ErrArg)
	}
}

// holdNoTop holds that nothing is told but the error.
func holdNoTop(t *testing.T, s *stack.Stack, n int, least int64, budget int, fails api.Errno) {
	t.Helper()
	if got, e := summary.Top(s, n, least, budget); len(got) != 0 || e != fails {
		t.Errorf("Top %d of %d in %v, with %d: %v, %v, not %v", n, least, s.Config(), budget, got, e, fails)
	}
}

// The chapter's example, in each mode: of exact levels of two bits, and the keys 1 and 2 that
// have 5 and 3.
func TestExample(t *testing.T) {
	for _, mode := range configs.Modes() {
		for _, width := range []int{4, 5, 128} {
			c := api.Config{Bits: 2, Rows: 2, Width: width, Mode: mode, Seed: 5}
			s := stacks.Fed(c, []api.Update{{Key: 2, Delta: 1}, {Key: 1, Delta: 5}, {Key: 2, Delta: 2}})
			for least := int64(1); least <= 5; least++ {
				if got, e := summary.Top(s, 1, least, 7); len(got) != 1 || got[0] != single(1, 5) || e != api.OK {
					t.Errorf("Top 1 of %d in %v: %v, %v", least, c, got, e)
				}
			}
			hold(t, s, 1, 7, single(1, 5), single(2, 3))
			hold(t, s, 3, 7, single(1, 5), single(2, 3))
			hold(t, s, 4, 5, single(1, 5))
			hold(t, s, 5, 5, single(1, 5))
			hold(t, s, 6, 3)
			hold(t, s, 8, 3)
			hold(t, s, 9, 1)
		}
	}
}

// Of three bits, all levels of which are exact: all other pieces have more than the keys, and
// each key's number is that of another one, too, or is below least.
func TestTopNamed(t *testing.T) {
	for _, x := range []struct {
		name  string
		cells stacks.Cells
		least int64
		asked int
		want  []heavy.Found
	}{
		{
			"the same numbers by rising keys",
			stacks.Cells{{5, 9, 5, 2, 9, -3, 9, 5}, {20, 20, 20, 20}, {30, 30}, {40}}, 1, 15,
			[]heavy.Found{single(1, 9), single(4, 9), single(6, 9), single(0, 5), single(2, 5), single(7, 5), single(3, 2)},
		}, {
			"rising numbers",
			stacks.Cells{{1, 2, 3, 4, 5, 6, 7, 8}, {20, 20, 20, 20}, {30, 30}, {40}}, 1, 15,
			[]heavy.Found{single(7, 8), single(6, 7), single(5, 6), single(4, 5), single(3, 4), single(2, 3), single(1, 2), single(0, 1)},
		}, {
			"falling numbers",
			stacks.Cells{{8, 7, 6, 5, 4, 3, 2, 1}, {20, 20, 20, 20}, {30, 30}, {40}}, 1, 15,
			[]heavy.Found{single(0, 8), single(1, 7), single(2, 6), single(3, 5), single(4, 4), single(5, 3), single(6, 2), single(7, 1)},
		}, {
			"one number alone",
			stacks.Cells{{4, 4, 4, 4, 4, 4, 4, 4}, {20, 20, 20, 20}, {30, 30}, {40}}, 4, 15,
			[]heavy.Found{single(0, 4), single(1, 4), single(2, 4), single(3, 4), single(4, 4), single(5, 4), single(6, 4), single(7, 4)},
		}, {
			"the greatest numbers that fit",
			stacks.Cells{{highest - 1, highest, 1, highest, 1 << 62, lowest, highest - 1, -1}, {highest, 20, highest, 20}, {highest, 30}, {highest}}, 1, 15,
			[]heavy.Found{single(1, highest), single(3, highest), single(0, highest-1), single(6, highest-1), single(4, 1<<62), single(2, 1)},
		}, {
			"numbers that are just least, and one less",
			stacks.Cells{{6, 7, 8, 5, 7, 6, 6, 7}, {7, 7, 7, 7}, {7, 7}, {7}}, 7, 15,
			[]heavy.Found{single(2, 8), single(1, 7), single(4, 7), single(7, 7)},
		}, {
			"none of pieces that have less, however much they have",
			stacks.Cells{{5, 9, 99, 98, 9, 6, 97, 97}, {20, 4, 20, 4}, {30, 30}, {40}}, 5, 11,
			[]heavy.Found{single(1, 9), single(4, 9), single(5, 6), single(0, 5)},
		}, {
			"none of a half that has less",
			stacks.Cells{{99, 98, 97, 96, 1, 2, 3, 2}, {20, 20, 20, 20}, {0, 30}, {40}}, 1, 9,
			[]heavy.Found{single(6, 3), single(5, 2), single(7, 2), single(4, 1)},
		}, {
			"none, as no key has much",
			stacks.Cells{{4, 4, 4, 4, 4, 4, 4, 4}, {20, 20, 20, 20}, {30, 30}, {40}}, 5, 15, nil,
		}, {
			"none, as no piece has much but that of all keys",
			stacks.Cells{{9, 9, 9, 9, 9, 9, 9, 9}, {9, 9, 9, 9}, {4, 4}, {40}}, 5, 3, nil,
		}, {
			"none, as all keys have less",
			stacks.Cells{{9, 9, 9, 9, 9, 9, 9, 9}, {9, 9, 9, 9}, {9, 9}, {4}}, 5, 1, nil,
		},
	} {
		t.Run(x.name, func(t *testing.T) {
			for _, mode := range configs.Modes() {
				c := stacks.Own(3, mode)
				s := stacks.Filled(c, x.cells)
				hold(t, s, x.least, x.asked, x.want...)
				stacks.Hold(t, s, c, x.cells)
			}
		})
	}
}

// One key alone has something, of each number of bits, the least and the greatest among
// them; that is the one, although many other pieces have it too.
func TestOneKey(t *testing.T) {
	for bits := 1; bits <= api.MaxBits; bits++ {
		for _, mode := range configs.Modes() {
			c := api.Config{Bits: bits, Rows: 8, Width: 128, Mode: mode, Seed: uint64(bits)}
			for i, key := range configs.Within(configs.Count(bits, 0))[:3] {
				n := []int64{1, highest, highest - 1, 1 << 55, 77}[(i+bits)%5]
				s := stacks.Fed(c, []api.Update{{Key: key, Delta: n}})
				before := stacks.Told(s)
				for _, least := range []int64{1, n} {
					hold(t, s, least, 1+2*bits, single(key, n))
				}
				if n < highest {
					hold(t, s, n+1, 1)
				}
				stacks.Hold(t, s, c, before)
			}
		}
	}
}

// All keys have the same: of as many as may be they are told by rising keys, of more the
// budget is never enough, however few are wanted.
func TestAllKeys(t *testing.T) {
	for bits := 1; bits <= api.MaxBits; bits++ {
		for i, mode := range configs.Modes() {
			c := api.Config{Bits: bits, Rows: 2, Width: []int{1, 2, 128}[(i+bits)%3], Mode: mode, Seed: 7}
			s := stacks.Filled(c, stacks.Full(c, 5))
			hold(t, s, 6, 1)
			if bits > 11 {
				for _, n := range []int{math.MinInt, -1, 0, 1, 2, 4096, math.MaxInt} {
					holdNoTop(t, s, n, 5, api.MaxBudget, api.ErrBudget)
				}
				continue
			}
			var all []heavy.Found
			for key := range configs.Count(bits, 0) {
				all = append(all, single(key, 5))
			}
			hold(t, s, 5, 1<<(bits+1)-1, all...)
		}
	}
}

// A least that is below 1, or a budget above the greatest one, comes ahead of all else, and a
// budget that is not enough of what is told, however few are wanted.
func TestTopRefused(t *testing.T) {
	under, over := []int64{0, -1, -2, -77, -1 << 32, lowest, lowest + 1}, []int{4097, 4098, 8192, 1 << 32, 1<<32 + 1, math.MaxInt}
	for i, c := range stacks.All() {
		for _, x := range []int64{highest, 0, -1, lowest} {
			cells := stacks.Full(c, x)
			s := stacks.Filled(c, cells)
			for _, n := range []int{math.MinInt, -1, 0, 1, 77, math.MaxInt} {
				for _, least := range under {
					for _, budget := range slices.Concat(over, []int{4096, 4095, 1, 0, -1, math.MinInt}) {
						holdNoTop(t, s, n, least, budget, api.ErrArg)
					}
				}
				for _, least := range []int64{1, 77, highest} {
					holdNoTop(t, s, n, least, over[i%len(over)], api.ErrArg)
					for _, budget := range []int{0, -1, -77, math.MinInt} {
						holdNoTop(t, s, n, least, budget, api.ErrBudget)
					}
				}
			}
			stacks.Hold(t, s, c, cells)
		}
	}
}

// ordered tells the keys among these, as Top tells them, by looking for the first one again
// and again.
func ordered(all []heavy.Found) []heavy.Found {
	var rest, keys []heavy.Found
	for _, f := range all {
		if f.P.Level == 0 {
			rest = append(rest, f)
		}
	}
	for len(rest) > 0 {
		first := 0
		for i, f := range rest {
			if f.N > rest[first].N || f.N == rest[first].N && f.P.Index < rest[first].P.Index {
				first = i
			}
		}
		keys = append(keys, rest[first])
		rest = slices.Delete(rest, first, first+1)
	}
	return keys
}

// leasts tells numbers of which some are told of few keys, some of many, and some of none:
// some that are told of keys among them, just so and one more.
func leasts(s *stack.Stack, i int) []int64 {
	total, count := s.Total(), configs.Count(s.Config().Bits, 0)
	some := []int64{1, highest, total / 2, total / 30}
	for _, key := range []uint64{0, count - 1, uint64(i) * 977 % count} {
		n, _ := s.Point(api.Piece{Index: key})
		some = append(some, n, n/2+1)
	}
	slices.Sort(some)
	return slices.DeleteFunc(slices.Compact(some), func(n int64) bool { return n < 1 })
}

// Of strewn numbers, as of those that were fed, in each mode, whichever levels are exact: of
// the pieces that Heavy tells the keys, as they are looked for one by one. Where it tells
// too many, nothing.
func TestTopOfAll(t *testing.T) {
	answers, keys := stacks.Answers{}, 0
	for i, c := range stacks.All() {
		for _, s := range tried(c, i) {
			before := stacks.Told(s)
			for _, least := range leasts(s, i) {
				all, fails := heavy.Heavy(s, least, api.MaxBudget)
				answers.Add(c, fails)
				if fails != api.OK {
					holdNoTop(t, s, i%5-1, least, api.MaxBudget, fails)
					continue
				}
				want := ordered(all)
				// Both halves are asked of all that are told but the keys.
				hold(t, s, least, 1+2*(len(all)-len(want)), want...)
				keys += len(want)
			}
			stacks.Hold(t, s, c, before)
		}
	}
	answers.HoldMany(t, api.OK, 200, stacks.AllExact, stacks.SomeExact, stacks.OneExact)
	answers.HoldMany(t, api.ErrBudget, 10, stacks.SomeExact, stacks.OneExact)
	if keys < 10000 {
		t.Errorf("only %d keys are told", keys)
	}
}

// What was told is the caller's: it may be written over, and made longer, and stays when
// others are told, and when the stack changes. It is told anew each time.
func TestTopApart(t *testing.T) {
	for _, c := range stacks.Configs() {
		if c.Bits > 11 {
			continue
		}
		s := stacks.Filled(c, stacks.Full(c, 5))
		before := stacks.Told(s)
		for _, n := range []int{1, 2, math.MaxInt} {
			var want []heavy.Found
			for key := range min(configs.Count(c.Bits, 0), uint64(n)) {
				want = append(want, single(key, 5))
			}
			first, _ := summary.Top(s, n, 5, api.MaxBudget)
			second, _ := summary.Top(s, n, 5, api.MaxBudget)
			clear(first)
			_ = append(first[:len(first)-1], single(77, 7), single(78, 8))
			if !slices.Equal(second, want) {
				t.Errorf("what was told of %v became %v", c, second)
			}
			stacks.Hold(t, s, c, before)
			third, e := summary.Top(s, n, 5, api.MaxBudget)
			if !slices.Equal(third, want) || e != api.OK {
				t.Errorf("of %v is told anew: %v, %v, not %v", c, third, e, want)
			}
			changed := s.Copy()
			if changed.Update(0, 7) != api.OK || !slices.Equal(second, want) || !slices.Equal(third, want) {
				t.Errorf("what was told of %v became %v, and %v", c, second, third)
			}
		}
	}
}
