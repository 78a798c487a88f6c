package summary_test

import (
	"cmp"
	"slices"
	"testing"

	"gauger/api"
	"gauger/configs"
	"gauger/heavy"
	"gauger/levels"
	"gauger/quant"
	"gauger/stack"
	"gauger/stacks"
	"gauger/summary"
)

// rising tells ranks of a stack that has some, and that lead to keys, by size, some of them
// twice.
func rising(s *stack.Stack, i int) []int64 {
	some := ranks(s, i)
	some = slices.DeleteFunc(append(some, some[:3]...), func(k int64) bool {
		_, e := quant.Quantile(s, k)
		return e != api.OK
	})
	slices.Sort(some)
	return some
}

// Quantiles of rising ranks rise, or stay, where no key has less than 0, and else, too.
func TestRisingRanks(t *testing.T) {
	rises, stays := map[int]int{}, map[int]int{}
	for i, c := range stacks.All() {
		for _, s := range tried(c, i) {
			if s.Total() < 1 {
				continue
			}
			ks := rising(s, i)
			keys, e := summary.Quantiles(s, ks)
			if len(keys) != len(ks) || !slices.IsSorted(keys) || e != api.OK {
				t.Errorf("Quantiles of %v in %v: %v, %v", ks, c, keys, e)
			}
			for j, key := range keys {
				if j > 0 && ks[j] > ks[j-1] && key > keys[j-1] {
					rises[c.Mode]++
				} else if j > 0 && ks[j] > ks[j-1] {
					stays[c.Mode]++
				}
			}
		}
	}
	for _, mode := range configs.Modes() {
		if rises[mode] < 500 || stays[mode] < 100 {
			t.Errorf("of the mode %d %d keys rise, and %d stay", mode, rises[mode], stays[mode])
		}
	}
}

// has is a stack all of whose levels are exact, and what each of its keys has, none of which
// has less than 0.
type has struct {
	s    *stack.Stack
	keys []int64
}

// known tells some of these.
func known() []has {
	var all []has
	for i, c := range stacks.All() {
		if stacks.Exact(c) != stacks.AllExact {
			continue
		}
		count := configs.Count(c.Bits, 0)
		rises := levels.Rises(i, count)
		for _, updates := range [][]api.Update{levels.Little(rises), levels.Less(rises), rises, levels.Little(rises[:9])} {
			all = append(all, has{stacks.Fed(c, updates), levels.Sums(count, updates)})
		}
	}
	return all
}

// Where all levels are exact, and no key has less than 0, in each mode the ranks from 1 on
// lead to each key as many times as it has, by rising keys.
func TestEachRank(t *testing.T) {
	tried := map[int]int{}
	for _, x := range known() {
		if x.s.Total() > 1000 {
			continue
		}
		var ks []int64
		var want []uint64
		for key, n := range x.keys {
			for range n {
				ks = append(ks, int64(len(ks)+1))
				want = append(want, uint64(key))
			}
		}
		holdQuantiles(t, x.s, ks, want...)
		holdNoQuantiles(t, x.s, append(ks, int64(len(ks)+1)), api.ErrRank)
		tried[x.s.Config().Mode] += len(ks)
	}
	for _, mode := range configs.Modes() {
		if tried[mode] < 500 {
			t.Errorf("of the mode %d only %d ranks are tried", mode, tried[mode])
		}
	}
}

// Where all levels are exact, in each mode of each span is told just what its keys have.
func TestJustWhatKeysHave(t *testing.T) {
	tried := map[int]int{}
	for i, x := range known() {
		c, count := x.s.Config(), uint64(len(x.keys))
		var each []uint64
		for key := range count - 1 {
			each = append(each, key+1)
		}
		holdHistogram(t, x.s, each, x.keys...)
		for _, cuts := range [][]uint64{nil, some(c.Bits, i), {count / 2}, {1}, {count - 1}} {
			var want []int64
			first := uint64(0)
			for _, end := range append(slices.Clone(cuts), count) {
				sum := int64(0)
				for _, n := range x.keys[first:end] {
					sum += n
				}
				want, first = append(want, sum), end
			}
			holdHistogram(t, x.s, cuts, want...)
		}
		tried[c.Mode]++
	}
	for _, mode := range configs.Modes() {
		if tried[mode] < 12 {
			t.Errorf("of the mode %d only %d stacks are tried", mode, tried[mode])
		}
	}
}

// Where all levels are exact, and no key has less than 0, in each mode the keys with the most
// are told, with what they have.
func TestKeysWithTheMost(t *testing.T) {
	tried, same := map[int]int{}, map[int]int{}
	for i, x := range known() {
		mode := x.s.Config().Mode
		for _, least := range []int64{1, 2, 3, slices.Max(x.keys), x.keys[i%len(x.keys)] + 1} {
			var want []heavy.Found
			for key, n := range x.keys {
				if n >= least {
					want = append(want, single(uint64(key), n))
				}
			}
			slices.SortStableFunc(want, func(a, b heavy.Found) int { return cmp.Compare(b.N, a.N) })
			for _, n := range []int{1, 2, 3, len(want), len(want) + 1, 0} {
				got, e := summary.Top(x.s, n, least, api.MaxBudget)
				if !slices.Equal(got, want[:min(n, len(want))]) || e != api.OK {
					t.Errorf("Top %d of %d in %v: %v, %v, not of %v", n, least, x.s.Config(), got, e, want)
				}
			}
			for j, f := range want {
				tried[mode]++
				if j > 0 && f.N == want[j-1].N {
					same[mode]++
				}
			}
		}
	}
	for _, mode := range configs.Modes() {
		if tried[mode] < 500 || same[mode] < 100 {
			t.Errorf("of the mode %d %d keys are told, and %d that have as much as another one", mode, tried[mode], same[mode])
		}
	}
}

// Where no key has less than 0, in the modes Linear and Conservative, of each span is told
// not less than its keys have; each key that has not less than least is among those that Top
// tells, with not less than it has, or the budget is not enough.
func TestNotLess(t *testing.T) {
	answers, more := stacks.Answers{}, map[int]int{}
	for i, c := range stacks.All() {
		if c.Mode == api.Median {
			continue
		}
		rises := levels.Rises(i, configs.Count(c.Bits, 0))
		for _, updates := range [][]api.Update{levels.Less(rises), levels.Little(rises), levels.Little(rises[:9]), levels.Less(rises[:9])} {
			s, cuts := stacks.Fed(c, updates), some(c.Bits, i)
			all, e := summary.Histogram(s, cuts)
			if len(all) != len(cuts)+1 || e != api.OK {
				t.Fatalf("Histogram of %v in %v: %v, %v", cuts, c, all, e)
			}
			first := uint64(0)
			for j, end := range append(slices.Clone(cuts), configs.Count(c.Bits, 0)) {
				n := levels.Has(updates, first, end-1)
				if all[j] < n {
					t.Errorf("the keys from %d to %d have %d, and are told %d by %v", first, end-1, n, all[j], c)
				} else if all[j] > n {
					more[c.Mode]++
				}
				first = end
			}
			for _, u := range updates[:5] {
				least := max(levels.Has(updates, u.Key, u.Key), 1)
				answers.Add(c, holdAmong(t, s, updates, least))
			}
		}
	}
	for is, n := range answers {
		if is.Fails == api.OK && n < 50 {
			t.Errorf("only %d answers of the kind %v", n, is)
		}
	}
	if len(answers) != 10 || more[api.Linear] < 100 || more[api.Conservative] < 100 {
		t.Errorf("not all kinds of answers: %v, or too few of more than keys have: %v", answers, more)
	}
}

// holdAmong holds that each key that has not less than least by the updates is told by Top,
// with not less than it has, if the budget is enough. It tells the error, if not.
func holdAmong(t *testing.T, s *stack.Stack, updates []api.Update, least int64) api.Errno {
	t.Helper()
	all, e := summary.Top(s, api.MaxBudget, least, api.MaxBudget)
	if e != api.OK {
		holdNoTop(t, s, 1, least, api.MaxBudget, api.ErrBudget)
		return e
	}
	told := map[uint64]int64{}
	for _, f := range all {
		told[f.P.Index] = f.N
	}
	for _, u := range updates {
		if n := levels.Has(updates, u.Key, u.Key); n >= least && told[u.Key] < n {
			t.Errorf("the key %d has %d, not less than %d, and is told %d by %v", u.Key, n, least, told[u.Key], s.Config())
		}
	}
	return api.OK
}

// As long as all that was added is together not more than 2^55, no rank and no span is
// refused for its size, in each mode, be there keys that have less than 0 or not.
func TestRoom(t *testing.T) {
	for i, c := range stacks.All() {
		for _, updates := range [][]api.Update{
			levels.Less(levels.Taken(i, levels.At(c, 0))),
			{{Key: 0, Delta: 1 << 55}},
			{{Key: configs.Last(c.Bits), Delta: 1 << 55}},
		} {
			s, cuts := stacks.Fed(c, updates), some(c.Bits, i)
			if all, e := summary.Histogram(s, cuts); len(all) != len(cuts)+1 || e != api.OK {
				t.Errorf("Histogram of %v in %v: %v, %v", cuts, c, all, e)
			}
			if s.Total() < 1 {
				continue
			}
			ks := ranks(s, i)
			if all, e := summary.Quantiles(s, ks); len(all) != len(ks) || e != api.OK {
				t.Errorf("Quantiles of %v in %v: %v, %v", ks, c, all, e)
			}
		}
	}
}
