package quant_test

import (
	"math/big"
	"testing"

	"gauger/api"
	"gauger/configs"
	"gauger/levels"
	"gauger/pieces"
	"gauger/quant"
	"gauger/stack"
	"gauger/stacks"
)

// fed is a stack, and the updates that it was fed.
type fed struct {
	s       *stack.Stack
	updates []api.Update
}

// feed tells the stack of the config that was fed the updates.
func feed(t *testing.T, c api.Config, updates []api.Update) fed {
	t.Helper()
	s := stacks.Fed(c, updates)
	if s == nil {
		t.Fatalf("%v is not fed", c)
	}
	return fed{s, updates}
}

// below tells what all keys below this one have.
func (f fed) below(key uint64) int64 {
	if key == 0 {
		return 0
	}
	return levels.Has(f.updates, 0, key-1)
}

// tooMuch tells the sum, over the first halves of all pieces on the way but the last one,
// of how much more is told of them than they have.
func (f fed) tooMuch(t *testing.T, way []api.Piece) *big.Int {
	t.Helper()
	bits, sum := f.s.Config().Bits, new(big.Int)
	for _, p := range way[:len(way)-1] {
		first, _, ok := pieces.Halves(bits, p)
		lo, hi, there := pieces.Span(bits, first)
		n, e := f.s.Point(first)
		if !ok || !there || e != api.OK {
			t.Fatalf("%v of %v has no first half: %v, %v", p, f.s.Config(), first, e)
		}
		sum.Add(sum, big.NewInt(n))
		sum.Sub(sum, big.NewInt(levels.Has(f.updates, lo, hi)))
	}
	return sum
}

// all tells each rank that the stack has.
func (f fed) all() []int64 {
	var every []int64
	for k := int64(1); k <= f.s.Total(); k++ {
		every = append(every, k)
	}
	return every
}

// The chapter's example, in each mode: of exact levels, and keys 1 and 6 that have 5 and 7.
func TestExample(t *testing.T) {
	for _, mode := range configs.Modes() {
		for _, width := range []int{8, 9, 128} {
			c := api.Config{Bits: 3, Rows: 2, Width: width, Mode: mode, Seed: 5}
			f := feed(t, c, []api.Update{{Key: 6, Delta: 3}, {Key: 1, Delta: 5}, {Key: 6, Delta: 4}})
			for k := int64(1); k <= 5; k++ {
				hold(t, f.s, k, 1)
			}
			for k := int64(6); k <= 12; k++ {
				hold(t, f.s, k, 6)
			}
			holdNoRanks(t, f.s)
		}
	}
}

// holdRank holds that all keys below the rank's key have less than the rank, and that the
// rank is not more than what all up to it have, and what was told too much on the way. It
// tells whether the rank is more than what all up to its key have.
func (f fed) holdRank(t *testing.T, k int64) bool {
	t.Helper()
	c := f.s.Config()
	way, e := quant.Way(f.s, k)
	if e != api.OK {
		t.Fatalf("Way of %d in %v: %v", k, c, e)
	}
	key := way[c.Bits].Index
	hold(t, f.s, k, key)
	below, upTo, more := f.below(key), f.below(key+1), f.tooMuch(t, way)
	most := new(big.Int).Add(big.NewInt(upTo), more)
	if below >= k || big.NewInt(k).Cmp(most) > 0 || more.Sign() < 0 {
		t.Errorf("the rank %d leads to %d in %v: below it the keys have %d, up to it %d, and %d was told too much", k, key, c, below, upTo, more)
	}
	return k > upTo
}

// Where no key has less than 0, each rank leads to a key with which all of it is right, in
// the modes Linear and Conservative.
func TestRanks(t *testing.T) {
	type kind struct {
		mode  int
		exact string
	}
	count, beyond := map[kind]int{}, map[kind]int{}
	try := func(f fed, all []int64) {
		c := f.s.Config()
		is := kind{c.Mode, stacks.Exact(c)}
		for _, k := range all {
			count[is]++
			if f.holdRank(t, k) {
				beyond[is]++
			}
		}
		holdNoRanks(t, f.s)
	}
	for i, c := range stacks.All() {
		if c.Mode == api.Median {
			continue
		}
		rises := levels.Rises(i, configs.Count(c.Bits, 0))
		much, few := feed(t, c, rises), feed(t, c, levels.Little(rises))
		try(much, ranks(t, much.s))
		try(few, few.all())
	}
	if len(count) != 6 || len(beyond) != 4 {
		t.Errorf("not all kinds of stacks are tried: %v, %v", count, beyond)
	}
	for is, n := range count {
		// Where all levels are exact, nothing is told too much.
		if n < 500 || is.exact != stacks.AllExact && beyond[is] < 300 {
			t.Errorf("of %v %d ranks are tried, %d of which are more than what all keys up to theirs have", is, n, beyond[is])
		}
	}
}

// Where all levels are exact, and no key has less than 0, in each mode the answer is the
// first key up to which the keys have the rank.
func TestAllLevelsExact(t *testing.T) {
	tried, none := map[int]int{}, map[int]int{}
	for i, c := range stacks.All() {
		if stacks.Exact(c) != stacks.AllExact {
			continue
		}
		tried[c.Mode]++
		rises := levels.Rises(i, configs.Count(c.Bits, 0))
		for _, updates := range [][]api.Update{rises, levels.Little(rises), rises[:3], levels.Little(rises[:5]), {{Key: 1, Delta: highest}}} {
			f := feed(t, c, updates)
			from := int64(0)
			for key := range configs.Count(c.Bits, 0) {
				to := f.below(key + 1)
				// Ranks above what those below it have, up to what it has, too.
				if from < to {
					for _, k := range []int64{from + 1, to - (to-from)/2, to} {
						hold(t, f.s, k, key)
					}
				} else {
					none[c.Mode]++
				}
				from = to
			}
			if from != f.s.Total() {
				t.Errorf("all keys of %v have %d, not %d", c, from, f.s.Total())
			}
			holdNoRanks(t, f.s)
		}
	}
	for _, mode := range configs.Modes() {
		if tried[mode] < 3 || none[mode] < 3 {
			t.Errorf("of the mode %d %d stacks are tried, with %d keys that have nothing", mode, tried[mode], none[mode])
		}
	}
}

// A greater rank never leads to a lesser key: where no key has less than 0, and else, too,
// as long as the ranks lead to keys.
func TestGreaterRanks(t *testing.T) {
	for i, c := range stacks.All() {
		count := configs.Count(c.Bits, 0)
		rises := levels.Rises(i, count)
		all := append(filled(c, i), stacks.Fed(c, rises), stacks.Fed(c, levels.Little(rises)), stacks.Fed(c, levels.Taken(i, levels.At(c, 0))))
		for _, s := range all {
			least, led := uint64(0), int64(0)
			for _, k := range ranks(t, s) {
				key, e := quant.Quantile(s, k)
				if e != api.OK {
					continue
				}
				if key < least {
					t.Errorf("in %v the rank %d leads to %d, but %d to %d", c, k, key, led, least)
				}
				least, led = key, k
			}
		}
	}
}

// As long as all that was added is together not more than 2^55, no rank is refused for its
// size, in each mode, however many keys share their cells, and be there keys that have less
// than 0 or not.
func TestRoom(t *testing.T) {
	tried := map[int]int{}
	for i, c := range stacks.All() {
		for _, updates := range [][]api.Update{
			levels.Less(levels.Taken(i, levels.At(c, 0))),
			levels.Less(levels.Taken(i+9, levels.At(c, 0))),
			{{Key: 0, Delta: 1 << 55}},
			{{Key: configs.Last(c.Bits), Delta: 1 << 55}},
		} {
			s := feed(t, c, updates).s
			for _, k := range ranks(t, s) {
				if key, e := quant.Quantile(s, k); e != api.OK {
					t.Errorf("Quantile of %d in %v: %d, %v", k, c, key, e)
				}
				tried[c.Mode]++
			}
			holdNoRanks(t, s)
		}
	}
	for _, mode := range configs.Modes() {
		if tried[mode] < 500 {
			t.Errorf("of the mode %d only %d ranks are tried", mode, tried[mode])
		}
	}
}
