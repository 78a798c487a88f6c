package merge_test

import (
	"slices"
	"testing"

	"gauger/api"
	"gauger/configs"
	"gauger/either"
	"gauger/levels"
	"gauger/merge"
	"gauger/shape"
	"gauger/stack"
	"gauger/stacks"
	"gauger/wide"
)

// turned tells the updates turned round.
func turned(all []api.Update) []api.Update {
	var other []api.Update
	for _, u := range all {
		other = append(other, api.Update{Key: u.Key, Delta: -u.Delta})
	}
	return other
}

// backwards tells the updates in the other order.
func backwards(all []api.Update) []api.Update {
	other := slices.Clone(all)
	slices.Reverse(other)
	return other
}

// sums tells whether each cell of the level is the sum of what keys have: in the mode
// Conservative those of an array alone.
func sums(c api.Config, n int) bool {
	return c.Mode != api.Conservative || either.KindOf(levels.At(c, n)) == either.Array
}

// holdSums holds the cells of all levels that are sums against those of the other stack.
func holdSums(t *testing.T, s, other *stack.Stack) {
	t.Helper()
	c := other.Config()
	if s.Config() != c {
		t.Errorf("a stack of %v, not of %v", s.Config(), c)
	}
	for _, n := range configs.Levels(c.Bits) {
		if got, want := s.Cells(n), other.Cells(n); sums(c, n) && !slices.Equal(got, want) {
			t.Errorf("level %d of %v has %v, not %v", n, c, got, want)
		}
	}
}

// put tells a copy of the stack, to which the others were put by the call, one by one.
func put(t *testing.T, x call, s *stack.Stack, others ...*stack.Stack) *stack.Stack {
	t.Helper()
	s = s.Copy()
	for _, o := range others {
		if e := x.do(s, o); e != api.OK {
			t.Errorf("%s in %v: %v", x.name, s.Config(), e)
		}
	}
	return s
}

// parted tells some updates of the config, and those that are left, by turns.
func parted(c api.Config, i int) (all, some, others []api.Update) {
	all = levels.Less(levels.Taken(i, levels.At(c, 0)))
	for j, u := range all {
		if (i+j*j)%3 == 0 {
			some = append(some, u)
		} else {
			others = append(others, u)
		}
	}
	return all, some, others
}

// A merged stack is the one that was fed all that both were, in whatever order, and whichever
// was the first: in the modes Linear and Median cell for cell, in the mode Conservative what
// the arrays have.
func TestMergedIsFedAll(t *testing.T) {
	add, _ := calls()
	for i, c := range stacks.All() {
		all, some, others := parted(c, i)
		want, a, b := stacks.Fed(c, all), stacks.Fed(c, some), stacks.Fed(c, others)
		holdSums(t, put(t, add, a, b), want)
		holdSums(t, put(t, add, b, a), want)
		holdSums(t, put(t, add, b, a), stacks.Fed(c, backwards(all)))
		holdSums(t, put(t, add, stacks.Fed(c, nil), b, a), want)
		holdSums(t, put(t, add, stacks.Fed(c, backwards(others)), stacks.Fed(c, backwards(some))), want)
		// Put together from four, each one half of the halves.
		half, rest := len(some)/2, len(others)/2
		first := put(t, add, stacks.Fed(c, some[:half]), stacks.Fed(c, others[rest:]))
		second := put(t, add, stacks.Fed(c, others[:rest]), stacks.Fed(c, some[half:]))
		holdSums(t, put(t, add, second, first), want)
		// Fed with the one half behind a merge of the other one.
		for _, u := range some[half:] {
			if e := first.Update(u.Key, u.Delta); e != api.OK {
				t.Errorf("Update of %v in %v: %v", u, c, e)
			}
		}
		holdSums(t, put(t, add, first, stacks.Fed(c, others[:rest])), want)
		holdSums(t, put(t, add, a, a), stacks.Fed(c, append(slices.Clone(some), some...)))
	}
}

// A stack from which another one was subtracted is the one that was fed what it was, and the
// other's turned round; merged and subtracted again it is the first one.
func TestSubtractedIsFedTheOthersTurnedRound(t *testing.T) {
	add, take := calls()
	tried := map[int]int{}
	for i, c := range stacks.All() {
		all, some, others := parted(c, i)
		if c.Mode == api.Conservative {
			continue
		}
		want, a, b := stacks.Fed(c, all), stacks.Fed(c, some), stacks.Fed(c, others)
		less := put(t, take, a, b)
		stacks.Hold(t, less, c, stacks.Told(stacks.Fed(c, slices.Concat(some, turned(others)))))
		stacks.Hold(t, less, c, stacks.Told(stacks.Fed(c, slices.Concat(turned(backwards(others)), some))))
		stacks.Hold(t, put(t, take, stacks.Fed(c, nil), less), c, stacks.Told(put(t, take, b, a)))
		stacks.Hold(t, put(t, add, less, b), c, stacks.Told(a))
		stacks.Hold(t, put(t, take, put(t, add, a, b), b), c, stacks.Told(a))
		stacks.Hold(t, put(t, take, put(t, add, a, b), a), c, stacks.Told(b))
		stacks.Hold(t, put(t, take, want, a, b), c, stacks.Full(c, 0))
		tried[c.Mode]++
	}
	if len(tried) != 2 || tried[api.Linear] < 30 || tried[api.Median] < 30 {
		t.Errorf("too few of some modes, or others: %v", tried)
	}
}

// Merged and subtracted again is the first one, whatever the cells are, if they fit.
func TestThereAndBack(t *testing.T) {
	add, take := calls()
	for i, c := range stacks.All() {
		if c.Mode == api.Conservative {
			continue
		}
		cells := stacks.Strewn(c, i, 1)
		a, b := stacks.Filled(c, cells), stacks.Filled(c, stacks.Strewn(c, i+5, 1))
		stacks.Hold(t, put(t, take, put(t, add, a, b), b), c, cells)
		stacks.Hold(t, put(t, add, put(t, take, a, b), b), c, cells)
	}
}

// twins are two stacks of the same config but for their modes, Conservative and Linear, to
// which the same was done, and all that was added to each of both by that.
type twins struct {
	low, high *stack.Stack
	all       []api.Update
}

// made tells twins of the config without anything.
func made(c api.Config) *twins {
	c.Mode = api.Conservative
	low := stacks.Fed(c, nil)
	c.Mode = api.Linear
	return &twins{low: low, high: stacks.Fed(c, nil)}
}

// feed feeds both with the updates.
func (x *twins) feed(t *testing.T, all []api.Update) {
	t.Helper()
	for _, u := range all {
		for _, s := range []*stack.Stack{x.low, x.high} {
			if e := s.Update(u.Key, u.Delta); e != api.OK {
				t.Errorf("Update of %v in %v: %v", u, s.Config(), e)
			}
		}
	}
	x.all = slices.Concat(x.all, all)
}

// merge merges the other twins, each into the one of its mode.
func (x *twins) merge(t *testing.T, other *twins) {
	t.Helper()
	for _, pair := range [][2]*stack.Stack{{x.low, other.low}, {x.high, other.high}} {
		if e := merge.Merge(pair[0], pair[1]); e != api.OK {
			t.Errorf("Merge in %v: %v", pair[0].Config(), e)
		}
	}
	x.all = slices.Concat(x.all, other.all)
}

// hold holds that at each level the prefixes of the keys are told not less than they have, nor
// more than in the mode Linear; where it is exact, just what they have. It tells of how many
// is told more than they have, and of how many less than in the mode Linear.
func (x *twins) hold(t *testing.T, keys []uint64) (more, less int) {
	t.Helper()
	c := x.low.Config()
	for _, n := range configs.Levels(c.Bits) {
		for _, key := range keys {
			p := api.Piece{Level: n, Index: configs.Above(key, n)}
			first := p.Index << n
			has := levels.Has(x.all, first, first+configs.Count(n, 0)-1)
			got, e := x.low.Point(p)
			most, fails := x.high.Point(p)
			if got < has || got > most || e != api.OK || fails != api.OK {
				t.Errorf("%v of %v has %d, and is told %d, %v, and %d, %v in the mode Linear", p, c, has, got, e, most, fails)
			}
			if n >= configs.Exact(c) && got != has {
				t.Errorf("%v of %v has %d, and is told %d", p, c, has, got)
			}
			if got > has {
				more++
			}
			if got < most {
				less++
			}
		}
	}
	return more, less
}

// In the mode Conservative, behind any updates and merges, no prefix is told less than it has,
// nor more than in the mode Linear.
func TestConservativeAndLinear(t *testing.T) {
	more, less := map[string]int{}, map[string]int{}
	for i, c := range stacks.All() {
		if c.Mode != api.Conservative {
			continue
		}
		updates := levels.Less(levels.Rises(i, configs.Count(c.Bits, 0)))
		if i%2 == 0 {
			updates = levels.Little(updates)
		}
		keys := configs.Within(configs.Count(c.Bits, 0))
		for _, u := range updates[:30] {
			keys = append(keys, u.Key)
		}
		count := func(x *twins) {
			m, l := x.hold(t, keys)
			more[stacks.Exact(c)] += m
			less[stacks.Exact(c)] += l
		}
		x, other, third := made(c), made(c), made(c)
		x.feed(t, updates[:20])
		other.feed(t, updates[20:35])
		x.merge(t, other)
		count(x)
		x.feed(t, updates[35:50])
		other.feed(t, updates[10:25])
		count(x)
		other.merge(t, x)
		count(other)
		other.merge(t, other)
		count(other)
		other.feed(t, updates[50:65])
		third.merge(t, other)
		third.merge(t, x)
		third.feed(t, updates[65:])
		count(third)
		count(x)
	}
	// Of one column alone, where just the highest level is exact, all keys share all cells.
	if more[stacks.SomeExact] < 100 || less[stacks.SomeExact] < 100 || more[stacks.OneExact] < 100 || len(more) != 3 {
		t.Errorf("too few prefixes that are told more than they have: %v, or less than in the mode Linear: %v", more, less)
	}
}

// shares is what a key has by some updates, added up.
type shares map[uint64]int64

// shared tells what each key has.
func shared(all []api.Update) shares {
	has := shares{}
	for _, u := range all {
		has[u.Key] += u.Delta
	}
	return has
}

// product tells the sum of the products of what the keys of a and those of b have, all pairs of
// keys that the function picks.
func product(a, b shares, picks func(key, other uint64) bool) api.Wide {
	sum := api.Wide{}
	for key, n := range a {
		for other, m := range b {
			if picks(key, other) {
				sum, _ = wide.Add(sum, wide.Times(n, m))
			}
		}
	}
	return sum
}

// least tells the least sum, over a row, of the products of what unlike keys with the same
// column have; 0, if level 0 is exact, where no two keys share a number.
func least(c api.Config, a, b shares) api.Wide {
	if either.KindOf(levels.At(c, 0)) == either.Array {
		return api.Wide{}
	}
	cols := map[uint64][]int{}
	for _, has := range []shares{a, b} {
		for key := range has {
			cols[key] = shape.Columns(c, 0, key)
		}
	}
	var all []api.Wide
	for row := range c.Rows {
		all = append(all, product(a, b, func(key, other uint64) bool {
			return key != other && cols[key][row] == cols[other][row]
		}))
	}
	return slices.MinFunc(all, func(a, b api.Wide) int {
		if wide.Less(a, b) {
			return -1
		}
		return 1
	})
}

// In the mode Linear, where no key has less than 0, Inner is the sum of the products of what
// the same keys have, and the least sum of the products of what unlike keys with the same
// column have; so it is not less than the sum of the products of what all keys have.
func TestInnerIsNotLess(t *testing.T) {
	same := func(key, other uint64) bool { return key == other }
	more, just := map[string]int{}, map[string]int{}
	for i, c := range stacks.All() {
		if c.Mode != api.Linear {
			continue
		}
		rises := levels.Less(levels.Rises(i, configs.Count(c.Bits, 0)))
		for _, updates := range [][]api.Update{rises, levels.Little(rises)} {
			some, others := updates[:50], updates[30:]
			a, b, has, have := stacks.Fed(c, some), stacks.Fed(c, others), shared(some), shared(others)
			sum := product(has, have, same)
			rest := least(c, has, have)
			want, fits := wide.Add(sum, rest)
			got, e := merge.Inner(a, b)
			if got != want || e != api.OK || !fits || wide.Less(got, sum) {
				t.Errorf("Inner in %v: %v, %v, not %v and %v", c, got, e, sum, rest)
			}
			if got == sum {
				just[stacks.Exact(c)]++
			} else {
				more[stacks.Exact(c)]++
			}
			// Of what a has with itself, and behind a merge with what both had.
			got, e = merge.Inner(a, a)
			if sum = product(has, has, same); wide.Less(got, sum) || e != api.OK {
				t.Errorf("Inner in %v with itself: %v, %v, not %v", c, got, e, sum)
			}
			merged := shared(slices.Concat(some, others))
			if e := merge.Merge(a, b); e != api.OK {
				t.Errorf("Merge in %v: %v", c, e)
			}
			want, _ = wide.Add(product(merged, have, same), least(c, merged, have))
			if got, e = merge.Inner(a, b); got != want || e != api.OK {
				t.Errorf("Inner in %v behind a merge: %v, %v, not %v", c, got, e, want)
			}
		}
	}
	if just[stacks.AllExact] < 5 || more[stacks.AllExact] > 0 || more[stacks.SomeExact] < 5 || more[stacks.OneExact] < 5 {
		t.Errorf("too few, or too many, of more than the sum: %v, and just the sum: %v", more, just)
	}
}

// As long as all that was added to a stack, and to what was merged into it, is together not
// more than 2^55, nothing is refused for its size, in each mode.
func TestRoom(t *testing.T) {
	for i, c := range stacks.All() {
		end := configs.Last(c.Bits)
		for _, updates := range [][]api.Update{
			levels.Less(levels.Taken(i, levels.At(c, 0))),
			{{Key: 0, Delta: 1 << 54}, {Key: 0, Delta: 1 << 54}},
			{{Key: end, Delta: 1 << 54}, {Key: 0, Delta: 1 << 54}},
			{{Key: 0, Delta: 1 << 55}},
		} {
			half := len(updates) / 2
			a, b := stacks.Fed(c, updates[:half]), stacks.Fed(c, updates[half:])
			if e := merge.Merge(a, b); e != api.OK {
				t.Errorf("Merge in %v: %v", c, e)
			}
			if want := levels.Has(updates, 0, end); a.Total() != want {
				t.Errorf("the total of %v is %d, not %d", c, a.Total(), want)
			}
			if _, e := merge.Inner(a, a); e != api.OK && c.Mode == api.Linear {
				t.Errorf("Inner in %v: %v", c, e)
			}
			if e := merge.Subtract(a, b); e != api.OK && c.Mode != api.Conservative {
				t.Errorf("Subtract in %v: %v", c, e)
			}
		}
	}
}
