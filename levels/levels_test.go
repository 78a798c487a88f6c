package levels_test

import (
	"math"
	"math/big"
	"slices"
	"testing"

	"gauger/api"
	"gauger/configs"
	"gauger/levels"
	"gauger/shape"
)

func TestFullFilledAndFed(t *testing.T) {
	k := kind("")
	for _, mode := range configs.Modes() {
		p := levels.At(api.Config{Bits: 3, Rows: 2, Width: 5, Mode: mode, Seed: 7}, 1)
		for _, x := range []struct{ turns, want []int64 }{
			{[]int64{7}, []int64{7, 7, 7, 7}},
			{[]int64{1, -2}, []int64{1, -2, 1, -2}},
			{[]int64{1, 2, 3}, []int64{1, 2, 3, 1}},
			{[]int64{1, 2, 3, 4, 5}, []int64{1, 2, 3, 4}},
		} {
			if got := k.Full(p, x.turns...); !slices.Equal(got, x.want) {
				t.Errorf("%v by turns are %v", x.turns, got)
			}
			levels.Hold(t, k.Filled(p, x.want...), p, x.want)
		}
		if l := k.Filled(p, 1, 2, 3); l != nil {
			t.Errorf("%v is filled with too few: %v", p, l)
		}
		levels.Hold(t, k.Fed(p, nil), p, []int64{0, 0, 0, 0})
		all := []api.Update{{Key: 3, Delta: 5}, {Key: 0, Delta: 2}, {Key: 3, Delta: 7}}
		levels.Hold(t, k.Fed(p, all), p, []int64{2, 0, 0, 12})
		for _, refused := range []api.Update{{Key: 4, Delta: 1}, {Key: 0, Delta: math.MaxInt64}} {
			if l := k.Fed(p, append(all[:3:3], refused)); l != nil {
				t.Errorf("%v was fed to %v", refused, l)
			}
		}
		other := levels.At(p.Config, 4)
		if l := k.Filled(other); l != nil {
			t.Errorf("%v is filled: %v", other, l)
		}
		if l := k.Fed(other, nil); l != nil {
			t.Errorf("%v is fed: %v", other, l)
		}
	}
}

func TestStrewn(t *testing.T) {
	p := levels.At(api.Config{Bits: 5, Rows: 2, Width: 5, Mode: api.Linear}, 1)
	all := kind("").Strewn(p, 0, 2)
	if len(all) != 16 || slices.Max(all) <= 0 || slices.Min(all) >= 0 || slices.Max(all) >= 1<<61 || slices.Min(all) < -1<<61 {
		t.Errorf("the strewn numbers are %v", all)
	}
	if other := kind("").Strewn(p, 1, 2); !slices.Equal(other[:15], all[1:]) {
		t.Errorf("from number 1 on there are %v, behind %v", other, all)
	}
}

func TestEdges(t *testing.T) {
	seen := map[string]bool{}
	for _, x := range levels.Edges() {
		sum := new(big.Int).Add(big.NewInt(x.N), big.NewInt(x.D))
		seen[sum.String()] = true
	}
	// The last sums that fit, and the first ones that do not, on each side.
	for _, sum := range []string{"9223372036854775807", "9223372036854775808", "-9223372036854775808", "-9223372036854775809"} {
		if !seen[sum] {
			t.Errorf("the sum %s is not tried", sum)
		}
	}
}

// sized tells the sum of all numbers, without their signs.
func sized(all []api.Update) *big.Int {
	sum := new(big.Int)
	for _, u := range all {
		sum.Add(sum, new(big.Int).Abs(big.NewInt(u.Delta)))
	}
	return sum
}

func TestUpdatesAndRises(t *testing.T) {
	for _, keys := range []uint64{1, 2, 64, 1 << 59} {
		for from := range 50 {
			all, below := levels.Updates(from, keys), 0
			rises := levels.Rises(from, keys)
			if len(rises) != len(all) || !sized(all).IsInt64() || !sized(rises).IsInt64() {
				t.Errorf("%d updates, %d of them rises, of %d together", len(all), len(rises), sized(all))
			}
			for i, u := range all {
				if u.Key >= keys || rises[i].Key != u.Key || rises[i].Delta < 0 {
					t.Errorf("of %d keys %d is updated by %d, and %d by %d", keys, u.Key, u.Delta, rises[i].Key, rises[i].Delta)
				}
				if u.Delta < 0 {
					below++
				}
			}
			if below < 20 || below > 60 {
				t.Errorf("%d of %d updates are below 0", below, len(all))
			}
			if other := levels.Updates(from+1, keys); slices.Equal(other, all) {
				t.Errorf("the same updates come again from %d on", from)
			}
		}
	}
}

// Less tells the same keys, with numbers of the same sign, or 0, and few enough together.
func TestLess(t *testing.T) {
	for from := range 50 {
		all, other := levels.Updates(from, 64), levels.Updates(from, 64)
		few := levels.Less(all)
		if !slices.Equal(all, other) {
			t.Errorf("%v became %v", other, all)
		}
		if sum := sized(few); len(few) != len(all) || sum.Cmp(big.NewInt(1<<55)) > 0 || sum.Cmp(big.NewInt(1<<50)) < 0 {
			t.Errorf("%d of %d updates are %d together", len(few), len(all), sum)
		}
		for i, u := range all {
			if few[i].Key != u.Key || few[i].Delta > 0 && u.Delta < 0 || few[i].Delta < 0 && u.Delta > 0 {
				t.Errorf("of %v became %v", u, few[i])
			}
		}
	}
}

// Little tells the same keys, with small numbers of the same sign, or 0: each number that is
// so small is among them, and nothing is changed by telling.
func TestLittle(t *testing.T) {
	seen := map[int64]int{}
	for from := range 10 {
		all := levels.Updates(from, 9)
		few := levels.Little(all)
		if !slices.Equal(all, levels.Updates(from, 9)) || len(few) != len(all) {
			t.Fatalf("%v became %v, and %v", levels.Updates(from, 9), all, few)
		}
		for i, u := range few {
			if d := all[i].Delta; u.Key != all[i].Key || u.Delta < -3 || u.Delta > 3 || u.Delta < 0 && d > 0 || u.Delta > 0 && d < 0 {
				t.Errorf("little of %v is %v", all[i], u)
			}
			seen[u.Delta]++
		}
	}
	if len(seen) != 7 {
		t.Errorf("not all numbers that are so small: %v", seen)
	}
}

func TestTaken(t *testing.T) {
	for _, mode := range configs.Modes() {
		for _, level := range []int{0, 1, 59} {
			p := levels.At(api.Config{Bits: 59, Rows: 1, Width: 1, Mode: mode}, level)
			want := levels.Updates(7, configs.Count(59, level))
			if mode == api.Conservative {
				want = levels.Rises(7, configs.Count(59, level))
			}
			if got := levels.Taken(7, p); !slices.Equal(got, want) {
				t.Errorf("in %v is taken %v, not %v", p, got, want)
			}
		}
	}
}

func TestSums(t *testing.T) {
	all := []api.Update{{Key: 3, Delta: 5}, {Key: 0, Delta: -2}, {Key: 3, Delta: 7}}
	if got := levels.Sums(4, all); !slices.Equal(got, []int64{-2, 0, 0, 12}) {
		t.Errorf("the keys have %v", got)
	}
}

func TestHas(t *testing.T) {
	all := []api.Update{{Key: 3, Delta: 5}, {Key: 0, Delta: -2}, {Key: 3, Delta: 7}, {Key: 1<<59 - 1, Delta: 1}}
	for _, x := range []struct {
		lo, hi uint64
		want   int64
	}{{0, 1<<59 - 1, 11}, {0, 0, -2}, {0, 2, -2}, {0, 3, 10}, {1, 2, 0}, {3, 3, 12}, {3, 4, 12}, {4, 1<<59 - 2, 0}, {4, 1<<59 - 1, 1}} {
		if got := levels.Has(all, x.lo, x.hi); got != x.want {
			t.Errorf("the keys from %d to %d have %d, not %d", x.lo, x.hi, got, x.want)
		}
	}
}

func TestNowhere(t *testing.T) {
	wrong := map[bool]int{}
	for _, p := range levels.Nowhere() {
		if shape.Keys(p.Config, p.Level) != 0 {
			t.Errorf("%v is there", p)
		}
		wrong[shape.Right(p.Config)]++
	}
	if wrong[true] < 1000 || wrong[false] < 100 {
		t.Errorf("too few of right configs, or of others: %v", wrong)
	}
}

func TestOthers(t *testing.T) {
	for _, c := range configs.Right() {
		for _, level := range configs.Levels(c.Bits) {
			p, asMany := levels.At(c, level), 0
			all := levels.Others(p)
			for _, other := range all {
				if other == p || shape.Keys(other.Config, other.Level) == 0 {
					t.Errorf("%v is not there, or is %v", other, p)
				}
				if other.Level != level && shape.Keys(other.Config, other.Level) == shape.Keys(c, level) {
					asMany++
				}
			}
			// Of all keys that there may be, there are as many at one level alone.
			if len(all) < 20 || asMany == 0 && c.Bits-level < api.MaxBits {
				t.Errorf("%d others of %v, %d of other levels with as many keys", len(all), p, asMany)
			}
		}
	}
}
