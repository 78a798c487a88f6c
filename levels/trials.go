package levels

import (
	"math"
	"slices"

	"gauger/api"
	"gauger/configs"
)

// Trial is what the levels of a kind are put to, each at its place.
type Trial struct {
	Name string
	Try  func(t Tester, all []Place)
}

// Trials tells all trials that are alike for each kind.
func (k Kind[L]) Trials() []Trial {
	return []Trial{
		{"made apart", k.madeApart},
		{"absent keys", k.noSuchKey},
		{"refusals", k.refused},
		{"loading", k.loads},
		{"what was loaded", k.loadKeepsNothing},
		{"what was told", k.cellsApart},
		{"copies", k.copies},
		{"joined at the edges", k.joinedAtTheEdges},
		{"joined", k.joinedOfAll},
		{"incompatible", k.incompatible},
		{"with itself", k.withItself},
		{"joined apart", k.joinedKeepsNothing},
	}
}

// NoneMade holds New of each place against ErrArg, and nil.
func (k Kind[L]) NoneMade(t Tester, all []Place) {
	t.Helper()
	var none L
	for _, p := range all {
		if l, e := k.New(p.Config, p.Level); l != none || e != api.ErrArg {
			t.Errorf("New of %v: %v, %v", p, l, e)
		}
	}
}

// Nowhere tells places that are none: of configs that are not right, and levels that are
// not there.
func Nowhere() []Place {
	var all []Place
	for _, c := range configs.Wrong() {
		for _, level := range []int{0, 1, 5, 9, 10, 11, 59, 60, -1, c.Bits, c.Bits - 1, math.MaxInt, math.MinInt} {
			all = append(all, At(c, level))
		}
	}
	for _, c := range configs.Right() {
		for _, level := range configs.Beyond(c.Bits) {
			all = append(all, At(c, level))
		}
	}
	return all
}

// madeApart holds that of levels of one place each changes alone.
func (k Kind[L]) madeApart(t Tester, all []Place) {
	t.Helper()
	for _, p := range all {
		noughts := k.Full(p, 0)
		l, o := k.Fed(p, nil), k.Fed(p, nil)
		if e := l.Update(0, 4); e != api.OK {
			t.Errorf("Update in %v: %v", p, e)
		}
		Hold(t, o, p, noughts)
		changed := l.Cells()
		if e := o.Update(0, 7); e != api.OK {
			t.Errorf("Update in %v: %v", p, e)
		}
		Hold(t, l, p, changed)
		Hold(t, k.Fed(p, nil), p, noughts)
	}
}

// noSuchKey holds that keys that are not there are refused: also where the mode would
// refuse what they are updated by, or a sum would not fit.
func (k Kind[L]) noSuchKey(t Tester, all []Place) {
	t.Helper()
	for _, p := range all {
		for _, turns := range [][]int64{{highest}, {lowest}, {0}, {highest, lowest, 7}} {
			cells := k.Full(p, turns...)
			l := k.Filled(p, cells...)
			for _, key := range configs.Outside(configs.Count(p.Config.Bits, p.Level)) {
				for _, d := range []int64{0, 1, -1, highest, lowest} {
					HoldUpdate(t, l, key, d, api.ErrKey, cells)
				}
				HoldPoint(t, l, key, 0, api.ErrKey)
			}
		}
	}
}

// refused holds what keys that are there refuse: in the mode Conservative all that is
// below 0, be there room or not, else what does not fit.
func (k Kind[L]) refused(t Tester, all []Place) {
	t.Helper()
	rows := []struct {
		n, d               int64
		sums, conservative api.Errno
	}{
		{highest, 1, api.ErrOverflow, api.ErrOverflow},
		{highest, highest, api.ErrOverflow, api.ErrOverflow},
		{1, highest, api.ErrOverflow, api.ErrOverflow},
		{lowest, -1, api.ErrOverflow, api.ErrMode},
		{lowest, lowest, api.ErrOverflow, api.ErrMode},
		{-1, lowest, api.ErrOverflow, api.ErrMode},
		{highest, -1, api.OK, api.ErrMode},
		{0, -1, api.OK, api.ErrMode},
		{0, lowest, api.OK, api.ErrMode},
		{highest, 0, api.OK, api.OK},
		{lowest, 0, api.OK, api.OK},
	}
	for _, p := range all {
		for _, x := range rows {
			fails := x.sums
			if p.Config.Mode == api.Conservative {
				fails = x.conservative
			}
			// What is taken changes the cells, as each kind does.
			if fails == api.OK && x.d != 0 {
				continue
			}
			cells := k.Full(p, x.n)
			l := k.Filled(p, cells...)
			for _, key := range configs.Within(configs.Count(p.Config.Bits, p.Level)) {
				HoldUpdate(t, l, key, x.d, fails, cells)
			}
		}
	}
}

// loads holds that just as many numbers as there are cells are loaded, each in its place.
func (k Kind[L]) loads(t Tester, all []Place) {
	t.Helper()
	for i, p := range all {
		count, want := k.Count(p.Config, p.Level), k.Full(p, 0)
		numbers := slices.Repeat(k.Strewn(p, i, 0), 3)
		l := k.Fed(p, nil)
		for _, row := range [][]int64{numbers[:count], k.Full(p, highest, lowest), k.Full(p, 0), k.Strewn(p, i+1, 0)} {
			for _, other := range []int{0, 1, count - 1, count + 1, count - p.Config.Width, count + p.Config.Width, 2 * count, len(numbers)} {
				if other != count && other >= 0 && other <= len(numbers) && l.Load(numbers[:other]) {
					t.Errorf("%d numbers are loaded into %d cells", other, count)
				}
			}
			if l.Load(nil) || l.Load([]int64{}) {
				t.Errorf("no numbers are loaded into %d cells", count)
			}
			Hold(t, l, p, want)
			if !l.Load(row) {
				t.Errorf("%d numbers are not loaded into %d cells", len(row), count)
			}
			Hold(t, l, p, row)
			want = row
		}
	}
}

// loadKeepsNothing holds that what was handed to Load stays, with what lies behind it,
// whatever changes the level, and may be written over.
func (k Kind[L]) loadKeepsNothing(t Tester, all []Place) {
	t.Helper()
	for _, p := range all {
		cells := k.Full(p, 3, -4, 5)
		whole := slices.Concat(cells, []int64{77, 78})
		was := slices.Clone(whole)
		for n, change := range []func(l L) bool{
			func(l L) bool { return !l.Load(whole) },
			func(l L) bool { return l.Update(0, 9) == api.OK },
			func(l L) bool { return l.Merge(l) == api.OK },
			func(l L) bool { return l.Load(k.Full(p, 7)) },
		} {
			if !change(k.Filled(p, whole[:len(cells)]...)) || !slices.Equal(whole, was) {
				t.Errorf("%v does not change, or changes what it was loaded with, to %v: %d", p, whole, n)
			}
		}
		l := k.Filled(p, whole[:len(cells)]...)
		clear(whole)
		Hold(t, l, p, cells)
	}
}

// cellsApart holds that what Cells told may be written over, and stays when the cells
// change.
func (k Kind[L]) cellsApart(t Tester, all []Place) {
	t.Helper()
	for _, p := range all {
		cells := k.Full(p, 3, 4, -5)
		l := k.Filled(p, cells...)
		first, second, third := l.Cells(), l.Cells(), l.Cells()
		clear(first)
		_ = append(third[:len(third)-1], 77)
		Hold(t, l, p, cells)
		if e := l.Update(0, 10); e != api.OK || !slices.Equal(second, cells) {
			t.Errorf("Update in %v: %v; what was told became %v", p, e, second)
		}
		if e := l.Merge(l); e != api.OK || !slices.Equal(second, cells) {
			t.Errorf("Merge in %v: %v; what was told became %v", p, e, second)
		}
		if !l.Load(k.Full(p, 8, 9)) || !slices.Equal(second, cells) || !slices.Equal(first, k.Full(p, 0)) {
			t.Errorf("Load in %v: what was told became %v, and %v", p, second, first)
		}
	}
}

// copies holds that a copy is the same at first, and that each of both changes alone, by
// each call that changes.
func (k Kind[L]) copies(t Tester, all []Place) {
	t.Helper()
	for i, p := range all {
		before, ones := k.Strewn(p, i, 2), k.Full(p, 1, 2, 3)
		other := k.Filled(p, ones...)
		for n, change := range []func(l L) bool{
			func(l L) bool { return l.Update(0, 1<<61) == api.OK },
			func(l L) bool { return l.Load(k.Full(p, 7, lowest)) },
			func(l L) bool { return l.Merge(other) == api.OK },
			func(l L) bool { return l.Merge(l) == api.OK },
			func(l L) bool { return p.Config.Mode == api.Conservative || l.Subtract(other) == api.OK },
		} {
			l := k.Filled(p, before...)
			copied := l.Copy()
			Hold(t, copied, p, before)
			if !change(copied) {
				t.Errorf("a copy of %v does not change: %d", p, n)
			}
			Hold(t, l, p, before)
			again, changed := l.Copy(), copied.Cells()
			if !change(l) {
				t.Errorf("what was copied of %v does not change: %d", p, n)
			}
			Hold(t, l, p, changed)
			Hold(t, copied, p, changed)
			Hold(t, again, p, before)
		}
		Hold(t, other, p, ones)
	}
}
