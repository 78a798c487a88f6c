package levels

import (
	"slices"

	"gauger/api"
)

// placeOf tells where a level is.
func placeOf(l Level) Place {
	return At(l.Config(), l.Level())
}

// Hold holds all that a level tells of itself against these.
func Hold(t Tester, l Level, p Place, want []int64) {
	t.Helper()
	if got := placeOf(l); got != p {
		t.Errorf("a level of %v, not of %v", got, p)
	}
	if got := l.Cells(); !slices.Equal(got, want) {
		t.Errorf("the cells of %v are %v, not %v", p, got, want)
	}
}

// HoldUpdate updates the key by d, and holds the cells behind it against what is wanted;
// ahead of it, Check answers the same, and changes nothing.
func HoldUpdate(t Tester, l Level, key uint64, d int64, fails api.Errno, want []int64) {
	t.Helper()
	p, before := placeOf(l), l.Cells()
	if e := l.Check(key, d); e != fails {
		t.Errorf("Check of %d by %d in %v: %v, not %v", key, d, p, e, fails)
	}
	Hold(t, l, p, before)
	if e := l.Update(key, d); e != fails {
		t.Errorf("Update of %d by %d in %v: %v, not %v", key, d, p, e, fails)
	}
	Hold(t, l, p, want)
}

// HoldPoint holds what is told of the key against what is wanted.
func HoldPoint(t Tester, l Level, key uint64, want int64, fails api.Errno) {
	t.Helper()
	p, before := placeOf(l), l.Cells()
	if n, e := l.Point(key); n != want || e != fails {
		t.Errorf("Point of %d in %v: %d, %v, not %d, %v", key, p, n, e, want, fails)
	}
	Hold(t, l, p, before)
}

// call is one of the two that put levels together.
type call[L any] struct {
	name string
	do   func(l, o L) api.Errno
}

// calls tells both of them.
func calls[L Of[L]]() (merge, subtract call[L]) {
	return call[L]{"Merge", L.Merge}, call[L]{"Subtract", L.Subtract}
}

// HoldJoined does Merge and Subtract to levels with the cells a and b, and holds what they
// answer, and both levels behind it, against what is wanted: the sums and the differences,
// or ErrOverflow, where these are nil. In the mode Conservative nothing is taken away.
func (k Kind[L]) HoldJoined(t Tester, p Place, a, b, plus, minus []int64) {
	t.Helper()
	merge, subtract := calls[L]()
	holdCall(t, merge, k.Filled(p, a...), k.Filled(p, b...), plus, api.ErrOverflow)
	fails := api.ErrOverflow
	if p.Config.Mode == api.Conservative {
		minus, fails = nil, api.ErrMode
	}
	holdCall(t, subtract, k.Filled(p, a...), k.Filled(p, b...), minus, fails)
}

// holdCall holds the cells of l behind the call against those that are wanted, or, if
// these are nil, what it answers against the error, and the cells against what they were;
// the other level, be it nil, or l itself, does not change but as l does.
func holdCall[L Of[L]](t Tester, do call[L], l, o L, want []int64, fails api.Errno) {
	t.Helper()
	var none L
	p, before := placeOf(l), l.Cells()
	if want == nil {
		want = before
	} else {
		fails = api.OK
	}
	var other Place
	var cells []int64
	if o != none {
		other, cells = placeOf(o), o.Cells()
	}
	if e := do.do(l, o); e != fails {
		t.Errorf("%s of %v with %v and %v with %v: %v, not %v", do.name, p, before, other, cells, e, fails)
	}
	Hold(t, l, p, want)
	if o != none && o != l {
		Hold(t, o, other, cells)
	}
}

// holdIncompatible holds both calls, each way round, against ErrIncompatible.
func holdIncompatible[L Of[L]](t Tester, l, o L) {
	t.Helper()
	var none L
	merge, subtract := calls[L]()
	for _, do := range []call[L]{merge, subtract} {
		holdCall(t, do, l, o, nil, api.ErrIncompatible)
		if o != none {
			holdCall(t, do, o, l, nil, api.ErrIncompatible)
		}
	}
}
