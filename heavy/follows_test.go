package heavy_test

import (
	"slices"
	"testing"

	"gauger/api"
	"gauger/configs"
	"gauger/heavy"
	"gauger/levels"
	"gauger/stacks"
)

// sums tells what each prefix has by the updates, if it has some.
func sums(bits int, updates []api.Update) map[api.Piece]int64 {
	has := map[api.Piece]int64{}
	for _, u := range updates {
		for _, level := range configs.Levels(bits) {
			has[api.Piece{Level: level, Index: configs.Above(u.Key, level)}] += u.Delta
		}
	}
	return has
}

// much tells numbers of which some are what prefixes have, just so, one less, and one more.
func much(updates []api.Update, bits, i int) []int64 {
	some := []int64{1}
	for level := i % 3; level <= bits; level += 1 + bits/7 {
		for _, u := range updates[:3] {
			lo := configs.Above(u.Key, level) << level
			n := levels.Has(updates, lo, lo+1<<level-1)
			some = append(some, n-1, n, n+1)
		}
	}
	slices.Sort(some)
	return slices.DeleteFunc(slices.Compact(some), func(n int64) bool { return n < 1 })
}

// Where no key has less than 0, in the modes Linear and Conservative, each prefix that has
// not less than least is told, at every level, and not less than it has; with each one all
// those in which it lies. Else more pieces would have to be asked than may be.
func TestEachPrefix(t *testing.T) {
	answers, more, keys := stacks.Answers{}, map[int]int{}, map[int]int{}
	for i, c := range stacks.All() {
		if c.Mode == api.Median {
			continue
		}
		rises := levels.Rises(i, configs.Count(c.Bits, 0))
		for _, updates := range [][]api.Update{rises, levels.Little(rises), rises[:9], levels.Little(rises[:20])} {
			s, has := stacks.Fed(c, updates), sums(c.Bits, updates)
			for _, least := range much(updates, c.Bits, i) {
				all, e := heavy.Heavy(s, least, api.MaxBudget)
				answers.Add(c, e)
				if e != api.OK {
					holdRefused(t, s, least, api.MaxBudget, api.ErrBudget)
					continue
				}
				told := holdWithin(t, c, all)
				for p, n := range has {
					if got, ok := told[p]; n >= least && (!ok || got < n) {
						t.Errorf("%v has %d, not less than %d, and is told %d by %v: %v", p, n, least, got, c, ok)
					}
				}
				for p, n := range told {
					if n > has[p] {
						more[c.Mode]++
					}
				}
				keys[c.Mode] += holdKeys(t, s, least)
			}
		}
	}
	for is, n := range answers {
		if is.Fails == api.OK && n < 200 {
			t.Errorf("only %d answers of the kind %v", n, is)
		}
	}
	if len(answers) != 10 {
		t.Errorf("not all kinds of answers: %v", answers)
	}
	for _, mode := range []int{api.Linear, api.Conservative} {
		if more[mode] < 1000 || keys[mode] < 1000 {
			t.Errorf("of the mode %d only %d pieces are told more than they have, and only %d keys are kept", mode, more[mode], keys[mode])
		}
	}
}

// holdWithin holds that with each piece that is told all those in which it lies are told. It
// tells what is told of each.
func holdWithin(t *testing.T, c api.Config, all []heavy.Found) map[api.Piece]int64 {
	t.Helper()
	told := map[api.Piece]int64{}
	for _, f := range all {
		told[f.P] = f.N
	}
	if len(told) != len(all) {
		t.Errorf("of %v some pieces are told twice: %v", c, all)
	}
	for _, f := range all {
		for level := f.P.Level; level <= c.Bits; level++ {
			p := api.Piece{Level: level, Index: configs.Above(f.P.Index, level-f.P.Level)}
			if _, ok := told[p]; !ok {
				t.Errorf("of %v %v is told, but not %v, in which it lies", c, f, p)
			}
		}
	}
	return told
}

// Where all levels are exact, in each mode, just those pieces are told that have not less
// than least, and lie in none that has less, with what they have, be there keys that have
// less than 0 or not.
func TestAllLevelsExact(t *testing.T) {
	tried, left := map[int]int{}, map[int]int{}
	for i, c := range stacks.All() {
		if stacks.Exact(c) != stacks.AllExact {
			continue
		}
		taken := levels.Taken(i, levels.At(c, 0))
		for _, updates := range [][]api.Update{levels.Rises(i, configs.Count(c.Bits, 0)), taken, taken[:9]} {
			s, has := stacks.Fed(c, updates), sums(c.Bits, updates)
			for _, least := range much(updates, c.Bits, i) {
				all, e := heavy.Heavy(s, least, api.MaxBudget)
				told := holdWithin(t, c, all)
				for p, n := range has {
					_, in := told[api.Piece{Level: p.Level + 1, Index: p.Index / 2}]
					got, ok := told[p]
					if want := n >= least && (in || p.Level == c.Bits); ok != want || ok && got != n || e != api.OK {
						t.Errorf("%v has %d, least is %d, and %d is told by %v: %v, %v", p, n, least, got, c, ok, e)
					}
					if n >= least && !ok {
						left[c.Mode]++
					}
				}
				tried[c.Mode]++
			}
		}
	}
	for _, mode := range configs.Modes() {
		if tried[mode] < 100 || (left[mode] > 0) != (mode != api.Conservative) {
			t.Errorf("of the mode %d %d numbers are tried, and %d pieces left that lie in others that have less", mode, tried[mode], left[mode])
		}
	}
}
