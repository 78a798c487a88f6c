package levels

import (
	"slices"

	"gauger/api"
	"gauger/configs"
)

// some tells some of so many places: the first and the last one, and of many each seventh
// part between.
func some(count int) []int {
	var all []int
	for at := 0; at < count; at += 1 + count/7 {
		all = append(all, at)
	}
	if last := count - 1; !slices.Contains(all, last) {
		all = append(all, last)
	}
	return all
}

// joinedAtTheEdges holds that one cell that does not fit is enough, wherever it is, and
// that with one less it fits.
func (k Kind[L]) joinedAtTheEdges(t Tester, all []Place) {
	t.Helper()
	for _, p := range all {
		for _, at := range some(k.Count(p.Config, p.Level)) {
			a, b := k.Full(p, 5), k.Full(p, 1)
			plus, minus := k.Full(p, 6), k.Full(p, 4)
			a[at], plus[at], minus[at] = highest-1, highest, highest-2
			k.HoldJoined(t, p, a, b, plus, minus)
			a[at], minus[at] = highest, highest-1
			k.HoldJoined(t, p, a, b, nil, minus)
			a[at], plus[at], minus[at] = lowest+1, lowest+2, lowest
			k.HoldJoined(t, p, a, b, plus, minus)
			a[at], plus[at] = lowest, lowest+1
			k.HoldJoined(t, p, a, b, plus, nil)
		}
	}
}

// joinedOfAll holds what strewn cells come to.
func (k Kind[L]) joinedOfAll(t Tester, all []Place) {
	t.Helper()
	for i, p := range all {
		a, b := k.Strewn(p, i, 1), k.Strewn(p, i+50, 1)
		var plus, minus []int64
		for at := range a {
			plus, minus = append(plus, a[at]+b[at]), append(minus, a[at]-b[at])
		}
		k.HoldJoined(t, p, a, b, plus, minus)
		k.HoldJoined(t, p, b, a, plus, negated(minus))
	}
}

// negated tells the numbers with the other sign.
func negated(l []int64) []int64 {
	var all []int64
	for _, n := range l {
		all = append(all, -n)
	}
	return all
}

// Others tells places that are unlike this one: in one field of its config, in its level,
// or in both its bits and its level, so that there are as many keys.
func Others(p Place) []Place {
	var all []Place
	for _, c := range configs.Others(p.Config) {
		if p.Level <= c.Bits {
			all = append(all, At(c, p.Level))
		}
	}
	for _, level := range configs.Levels(p.Config.Bits) {
		if level != p.Level {
			all = append(all, At(p.Config, level))
		}
	}
	for _, more := range []int{-1, 1} {
		other := p
		other.Config.Bits += more
		other.Level += more
		if other.Level >= 0 && other.Config.Bits >= 1 && other.Config.Bits <= api.MaxBits {
			all = append(all, other)
		}
	}
	return all
}

// incompatible holds that a level is put together with none but those of its own config
// and level: also in the mode Conservative, and where sums would not fit.
func (k Kind[L]) incompatible(t Tester, all []Place) {
	t.Helper()
	var none L
	for _, p := range all {
		for _, turns := range [][]int64{{highest}, {lowest}, {0}, {3, -3}} {
			l := k.Filled(p, k.Full(p, turns...)...)
			holdIncompatible(t, l, none)
			for _, other := range Others(p) {
				o, fails := k.New(other.Config, other.Level)
				// Not each kind is made of each level.
				if fails != api.OK {
					continue
				}
				if !o.Load(k.Full(other, 1, -1)) {
					t.Errorf("%v is not loaded", other)
				}
				holdIncompatible(t, l, o)
			}
		}
	}
}

// withItself holds what a level comes to, put together with itself, with a cell at the
// edges wherever it is.
func (k Kind[L]) withItself(t Tester, all []Place) {
	t.Helper()
	merge, subtract := calls[L]()
	for _, p := range all {
		noughts := k.Full(p, 0)
		if p.Config.Mode == api.Conservative {
			noughts = nil
		}
		for _, at := range some(k.Count(p.Config, p.Level)) {
			for _, n := range []int64{0, 5, -7, 1<<62 - 1, 1 << 62, -1 << 62, -1<<62 - 1, highest, lowest} {
				cells, twice := k.Full(p, 3), k.Full(p, 6)
				cells[at], twice[at] = n, 2*n
				if n < -1<<62 || n >= 1<<62 {
					twice = nil
				}
				l := k.Filled(p, cells...)
				holdCall(t, merge, l, l, twice, api.ErrOverflow)
				holdCall(t, subtract, l, l, noughts, api.ErrMode)
			}
		}
	}
}

// joinedKeepsNothing holds that levels that were put together change alone later on.
func (k Kind[L]) joinedKeepsNothing(t Tester, all []Place) {
	t.Helper()
	merge, subtract := calls[L]()
	for _, p := range all {
		for _, do := range []call[L]{merge, subtract} {
			l, o := k.Fed(p, nil), k.Filled(p, k.Full(p, 3)...)
			fails := do.do(l, o)
			want := l.Cells()
			if e := o.Update(0, 1); e != api.OK {
				t.Errorf("%s in %v: %v, and Update behind it: %v", do.name, p, fails, e)
			}
			Hold(t, l, p, want)
			want = o.Cells()
			if e := l.Update(0, 6); e != api.OK {
				t.Errorf("%s in %v: %v, and Update behind it: %v", do.name, p, fails, e)
			}
			Hold(t, o, p, want)
		}
	}
}
