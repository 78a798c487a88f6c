package heavy_test

import (
	"cmp"
	"math/big"
	"slices"
	"testing"

	"gauger/api"
	"gauger/configs"
	"gauger/heavy"
	"gauger/levels"
	"gauger/pieces"
	"gauger/stack"
	"gauger/stacks"
)

// kept tells a piece that is kept, with what is told of it, and what is left of that.
func kept(level int, index uint64, n, rest int64) heavy.Rest {
	return heavy.Rest{P: api.Piece{Level: level, Index: index}, N: n, Rest: rest}
}

// holdKept holds what Hier tells of numbers from least on, with a budget of so many pieces
// as are asked, and with more; one less is not enough.
func holdKept(t *testing.T, s *stack.Stack, least int64, asked int, want ...heavy.Rest) {
	t.Helper()
	for _, budget := range []int{asked, api.MaxBudget} {
		if got, e := heavy.Hier(s, least, budget); !slices.Equal(got, want) || e != api.OK {
			t.Errorf("Hier of %d in %v, with %d: %v, %v, not %v", least, s.Config(), budget, got, e, want)
		}
	}
	holdRefused(t, s, least, asked-1, api.ErrBudget)
}

// holdOverflow holds that some rest does not fit, be the budget just enough or more, that
// Heavy tells what it tells all the same, and that Heavy's errors come first.
func holdOverflow(t *testing.T, s *stack.Stack, least int64, asked int) {
	t.Helper()
	for _, budget := range []int{asked, api.MaxBudget} {
		if got, e := heavy.Hier(s, least, budget); len(got) != 0 || e != api.ErrOverflow {
			t.Errorf("Hier of %d in %v, with %d: %v, %v", least, s.Config(), budget, got, e)
		}
		if got, e := heavy.Heavy(s, least, budget); len(got) == 0 || e != api.OK {
			t.Errorf("Heavy of %d in %v, with %d: %v, %v", least, s.Config(), budget, got, e)
		}
	}
	holdRefused(t, s, least, asked-1, api.ErrBudget)
	holdRefused(t, s, least, 0, api.ErrBudget)
	holdRefused(t, s, least, api.MaxBudget+1, api.ErrArg)
	holdRefused(t, s, 0, asked, api.ErrArg)
	holdRefused(t, s, -least, asked-1, api.ErrArg)
}

// Of three bits, all levels of which are exact: what is kept of all pieces that have much.
func TestKeptNamed(t *testing.T) {
	for _, x := range []struct {
		name  string
		cells stacks.Cells
		least int64
		asked int
		want  []heavy.Rest
	}{
		{
			"none has much",
			stacks.Cells{{9, 9, 9, 9, 9, 9, 9, 9}, {9, 9, 9, 9}, {9, 9}, {4}}, 5, 1, nil,
		}, {
			"all keys together alone have much",
			stacks.Cells{{4, 4, 4, 4, 4, 4, 4, 4}, {4, 4, 4, 4}, {4, 4}, {5}}, 5, 3,
			[]heavy.Rest{kept(3, 0, 5, 5)},
		}, {
			"a kept one within a kept one within a third one, within a fourth one",
			stacks.Cells{{5, 0, 0, 0, 0, 0, 0, 0}, {12, 0, 0, 0}, {20, 0}, {30}}, 5, 7,
			[]heavy.Rest{kept(0, 0, 5, 5), kept(1, 0, 12, 7), kept(2, 0, 20, 8), kept(3, 0, 30, 10)},
		}, {
			"rests that are just least",
			stacks.Cells{{0, 0, 0, 5, 0, 0, 0, 0}, {0, 10, 0, 0}, {15, 0}, {20}}, 5, 7,
			[]heavy.Rest{kept(0, 3, 5, 5), kept(1, 1, 10, 5), kept(2, 0, 15, 5), kept(3, 0, 20, 5)},
		}, {
			"one less at level 1, so that level 2 has more left",
			stacks.Cells{{0, 0, 0, 5, 0, 0, 0, 0}, {0, 9, 0, 0}, {15, 0}, {20}}, 5, 7,
			[]heavy.Rest{kept(0, 3, 5, 5), kept(2, 0, 15, 10), kept(3, 0, 20, 5)},
		}, {
			"one less at level 2",
			stacks.Cells{{0, 0, 0, 0, 0, 0, 5, 0}, {0, 0, 0, 10}, {0, 14}, {20}}, 5, 7,
			[]heavy.Rest{kept(0, 6, 5, 5), kept(1, 3, 10, 5), kept(3, 0, 20, 10)},
		}, {
			"one less at the highest level",
			stacks.Cells{{0, 0, 0, 0, 0, 0, 0, 5}, {0, 0, 0, 10}, {0, 15}, {19}}, 5, 7,
			[]heavy.Rest{kept(0, 7, 5, 5), kept(1, 3, 10, 5), kept(2, 1, 15, 5)},
		}, {
			"what is not kept at two levels is taken from none above",
			stacks.Cells{{0, 0, 0, 0, 5, 0, 0, 0}, {0, 0, 9, 0}, {0, 9}, {10}}, 5, 7,
			[]heavy.Rest{kept(0, 4, 5, 5), kept(3, 0, 10, 5)},
		}, {
			"nothing within is kept, as nothing within has much",
			stacks.Cells{{4, 4, 4, 4, 4, 4, 4, 4}, {8, 8, 8, 8}, {16, 16}, {32}}, 5, 15,
			[]heavy.Rest{kept(1, 0, 8, 8), kept(1, 1, 8, 8), kept(1, 2, 8, 8), kept(1, 3, 8, 8)},
		}, {
			"kept ones of several levels within one, side by side",
			stacks.Cells{{7, 1, 1, 1, 6, 5, 1, 1}, {8, 6, 20, 1}, {21, 22}, {70}}, 5, 13,
			[]heavy.Rest{
				kept(0, 0, 7, 7), kept(0, 4, 6, 6), kept(0, 5, 5, 5), kept(1, 1, 6, 6), kept(1, 2, 20, 9),
				kept(2, 0, 21, 8), kept(3, 0, 70, 29),
			},
		}, {
			"rests that are below 0, at three levels",
			stacks.Cells{{9, 8, 7, 6, 0, 0, 0, 0}, {5, 5, 0, 0}, {5, 0}, {5}}, 5, 9,
			[]heavy.Rest{kept(0, 0, 9, 9), kept(0, 1, 8, 8), kept(0, 2, 7, 7), kept(0, 3, 6, 6)},
		}, {
			"a rest below 0 on the one side, and one that is kept on the other one",
			stacks.Cells{{9, 8, 0, 0, 0, 0, 5, 5}, {5, 0, 0, 15}, {6, 15}, {38}}, 5, 11,
			[]heavy.Rest{kept(0, 0, 9, 9), kept(0, 1, 8, 8), kept(0, 6, 5, 5), kept(0, 7, 5, 5), kept(1, 3, 15, 5), kept(3, 0, 38, 6)},
		}, {
			"rests of 0 are not kept, however little least is",
			stacks.Cells{{1, 0, 2, 0, 0, 3, 0, 4}, {1, 2, 3, 4}, {3, 7}, {10}}, 1, 15,
			[]heavy.Rest{kept(0, 0, 1, 1), kept(0, 2, 2, 2), kept(0, 5, 3, 3), kept(0, 7, 4, 4)},
		}, {
			"what has much within what has not is not kept, and not taken away",
			stacks.Cells{{90, 0, 0, 0, 0, 0, 0, 80}, {4, 0, 0, 70}, {9, -9}, {14}}, 5, 5,
			[]heavy.Rest{kept(2, 0, 9, 9), kept(3, 0, 14, 5)},
		},
	} {
		t.Run(x.name, func(t *testing.T) {
			for _, mode := range configs.Modes() {
				c := stacks.Own(3, mode)
				s := stacks.Filled(c, x.cells)
				holdKept(t, s, x.least, x.asked, x.want...)
				stacks.Hold(t, s, c, x.cells)
			}
		})
	}
}

// Of one bit: rests that are the greatest, or the least, number that fits, and such as are
// one more than that, or that would be kept, if they went round.
func TestRestsAtTheEdge(t *testing.T) {
	for _, x := range []struct {
		all, left, right int64
		least            int64
		fails            api.Errno
	}{
		{highest, 0, 0, 1, api.OK},
		{highest, 0, 0, highest, api.OK},
		{highest, highest, 0, 1, api.OK},
		{highest, highest, 0, highest, api.OK},
		{highest, highest - 1, highest - 1, highest, api.OK},
		{highest, lowest, lowest, highest, api.OK},
		{highest, lowest, 1, 1, api.OK},
		{1, highest, 2, 1, api.OK}, // -2^63
		{1, 2, highest, 1, api.OK},
		{1, highest, 1, 1, api.OK},
		{1, highest, 0, 1, api.OK},
		{2, highest, 3, 2, api.OK},
		{1, highest, 3, 1, api.ErrOverflow},
		{1, 3, highest, 1, api.ErrOverflow},
		{2, highest, 4, 2, api.ErrOverflow},
		{2, highest, 4, 1, api.ErrOverflow},
		{1, highest, highest, 1, api.ErrOverflow}, // 3, if it went round
		{5, highest, highest, 5, api.ErrOverflow},
		{5, highest - 3, highest - 3, 5, api.ErrOverflow},
		{1, 1 << 62, 1 << 62, 1, api.OK},
		{1, 1 << 62, 1<<62 + 1, 1, api.OK},
		{1, 1 << 62, 1<<62 + 2, 1, api.ErrOverflow},
		{highest, highest, highest, 1, api.OK},
		{highest, highest, highest, highest, api.OK},
		{highest - 1, highest, highest, 1, api.OK}, // -2^63
		{highest - 2, highest, highest, 1, api.ErrOverflow},
		{highest - 2, highest, highest - 1, 1, api.OK},
	} {
		for _, mode := range configs.Modes() {
			for _, width := range []int{2, 128} {
				c := api.Config{Bits: 1, Rows: 2, Width: width, Mode: mode, Seed: 7}
				cells := stacks.Cells{{x.left, x.right}, {x.all}}
				s := stacks.Filled(c, cells)
				if x.fails != api.OK {
					holdOverflow(t, s, x.least, 3)
				} else {
					var want []heavy.Rest
					rest := x.all
					for key, n := range cells[0] {
						if n >= x.least {
							want = append(want, kept(0, uint64(key), n, n))
							rest -= n
						}
					}
					if rest >= x.least {
						want = append(want, kept(1, 0, x.all, rest))
					}
					holdKept(t, s, x.least, 3, want...)
				}
				stacks.Hold(t, s, c, cells)
			}
		}
	}
}

// Of each number of bits, the pieces in which one key lies are told so much more at each
// level that they are kept, with a rest that is just least, or more; but at some levels, the
// highest one alone among it, one less is left, so that these are not kept.
func TestKeptWithinEachOther(t *testing.T) {
	for bits := 1; bits <= api.MaxBits; bits++ {
		for _, mode := range configs.Modes() {
			c := api.Config{Bits: bits, Rows: 8, Width: 128, Mode: mode, Seed: uint64(bits)}
			for _, key := range []uint64{0, configs.Last(bits), configs.Last(bits) / 3} {
				for _, every := range []int{bits + 1, 2, 3} {
					path := onPath(bits, key, 0)
					var want []heavy.Rest
					last := int64(0)
					for level := range bits + 1 {
						n, rest := int64(7*(level+1)), int64(7*(level+1))-last
						if level%every == every-1 {
							n, rest = last+6, 6
						}
						path[bits-level].N = n
						if rest >= 7 {
							want = append(want, kept(level, path[bits-level].P.Index, n, rest))
							last = n
						}
					}
					s := planted(t, c, path...)
					hold(t, s, 7, 1+2*bits, path...)
					holdKept(t, s, 7, 1+2*bits, want...)
				}
			}
		}
	}
}

// At each level there is a piece of whose halves much is told, so that its rest is just the
// least number that fits, or one less, or far less; the rests above it fit, and are below 0.
func TestOverflowAtEachLevel(t *testing.T) {
	for _, bits := range []int{1, 2, 3, 7, 8, 20, 58, 59} {
		for _, mode := range configs.Modes() {
			c := api.Config{Bits: bits, Rows: 8, Width: 128, Mode: mode, Seed: 11}
			for level := 1; level <= bits; level += 1 + bits/9 {
				for _, key := range configs.Within(configs.Count(bits, 0))[:3] {
					for _, n := range []int64{2, 1, 3, 4, 100, highest - 1, highest} {
						// All pieces above that one have as much as may be, so that they fit.
						all := onPath(bits, key, highest)[:bits-level+1]
						over := &all[bits-level]
						over.N = 1
						index := over.P.Index
						first, second := found(level-1, 2*index, highest), found(level-1, 2*index+1, n)
						if key%2 == 1 {
							first.N, second.N = n, highest
						}
						all = append(all, first, second)
						asked := 1 + 2*(bits-level+1)
						if level > 1 {
							asked += 4
						}
						s := planted(t, c, all...)
						before := stacks.Told(s)
						hold(t, s, 1, asked, all...)
						if n > 2 {
							holdOverflow(t, s, 1, asked)
						} else {
							holdKept(t, s, 1, asked, kept(level-1, 2*index, first.N, first.N), kept(level-1, 2*index+1, second.N, second.N))
						}
						stacks.Hold(t, s, c, before)
					}
				}
			}
		}
	}
}

// Where many keys share one cell, what is told of all of them is so much more than they
// have that a rest does not fit, though all that was added is not more than 2^55.
func TestOverflowOfOneCell(t *testing.T) {
	for _, mode := range configs.Modes() {
		for bits := 1; bits <= 11; bits++ {
			c := api.Config{Bits: bits, Rows: 1, Width: 1, Mode: mode, Seed: 7}
			s := stacks.Fed(c, []api.Update{{Key: 0, Delta: 1 << 55}})
			asked := 1<<(bits+1) - 1
			// 2^8 keys are together told 2^63, 2^55 more than is to be left of it.
			if bits > 8 {
				holdOverflow(t, s, 1<<55, asked)
				continue
			}
			var want []heavy.Rest
			for key := range configs.Count(bits, 0) {
				want = append(want, kept(0, key, 1<<55, 1<<55))
			}
			holdKept(t, s, 1<<55, asked, want...)
		}
	}
}

// within tells whether all keys of the one piece are keys of the other one.
func within(bits int, a, b api.Piece) bool {
	first, last, _ := pieces.Span(bits, a)
	from, to, _ := pieces.Span(bits, b)
	return from <= first && last <= to
}

// outermost tells whether a kept piece lies within p, and within no other kept one that does.
func outermost(bits int, all []heavy.Rest, a heavy.Rest, p api.Piece) bool {
	return within(bits, a.P, p) && !slices.ContainsFunc(all, func(o heavy.Rest) bool {
		return o.P != a.P && within(bits, a.P, o.P) && within(bits, o.P, p)
	})
}

// reckonedRests tells, by whole numbers and by the spans of pieces, which of those that are
// told are kept, and how many have a rest below 0.
func reckonedRests(bits int, told []heavy.Found, least int64) (all []heavy.Rest, below int, fails api.Errno) {
	told = slices.SortedFunc(slices.Values(told), func(a, b heavy.Found) int {
		return cmp.Or(cmp.Compare(a.P.Level, b.P.Level), cmp.Compare(a.P.Index, b.P.Index))
	})
	for _, f := range told {
		rest := big.NewInt(f.N)
		for _, a := range all {
			if outermost(bits, all, a, f.P) {
				rest.Sub(rest, big.NewInt(a.N))
			}
		}
		if !rest.IsInt64() {
			return nil, 0, api.ErrOverflow
		}
		if rest.Sign() < 0 {
			below++
		}
		if rest.Int64() >= least {
			all = append(all, kept(f.P.Level, f.P.Index, f.N, rest.Int64()))
		}
	}
	return all, below, api.OK
}

// Of strewn numbers, as of those that were fed, in each mode, whichever levels are exact:
// what whole numbers and spans of keys tell of the pieces that Heavy tells. A kept piece of
// level 0 is each key that Heavy tells, with all that it is told.
func TestHierOfAll(t *testing.T) {
	answers, below, part := stacks.Answers{}, 0, 0
	for i, c := range stacks.All() {
		for _, s := range append(stacks.Rough(c, i), stacks.Fed(c, levels.Less(levels.Taken(i, levels.At(c, 0))))) {
			for _, least := range leasts(s, i) {
				told, asked := reckoned(t, s, least)
				if asked > 300 {
					continue
				}
				want, less, fails := reckonedRests(c.Bits, told, least)
				answers.Add(c, fails)
				if fails != api.OK {
					holdOverflow(t, s, least, asked)
					continue
				}
				holdKept(t, s, least, asked, want...)
				holdKeys(t, s, least)
				below += less
				for _, r := range want {
					if r.Rest < r.N {
						part++
					}
				}
			}
		}
	}
	answers.HoldMany(t, api.OK, 300, stacks.AllExact, stacks.SomeExact, stacks.OneExact)
	answers.HoldMany(t, api.ErrOverflow, 10, stacks.AllExact, stacks.SomeExact, stacks.OneExact)
	if below < 1000 || part < 1000 {
		t.Errorf("only %d rests are below 0, and only of %d kept pieces a part is taken away", below, part)
	}
}

// holdKeys holds that a kept piece of level 0 is each key that Heavy tells, if each rest fits.
// It tells how many these are.
func holdKeys(t *testing.T, s *stack.Stack, least int64) int {
	t.Helper()
	told, _ := heavy.Heavy(s, least, api.MaxBudget)
	rests, e := heavy.Hier(s, least, api.MaxBudget)
	if e == api.ErrOverflow {
		return 0
	}
	var keys, all []heavy.Rest
	for _, f := range told {
		if f.P.Level == 0 {
			keys = append(keys, kept(0, f.P.Index, f.N, f.N))
		}
	}
	for _, r := range rests {
		if r.P.Level == 0 {
			all = append(all, r)
		}
	}
	if !slices.Equal(keys, all) {
		t.Errorf("of the keys %v those that are kept of %d in %v are %v", keys, least, s.Config(), all)
	}
	return len(all)
}
