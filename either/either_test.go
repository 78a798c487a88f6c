package either_test

import (
	"slices"
	"testing"

	"gauger/api"
	"gauger/arrays"
	"gauger/configs"
	"gauger/either"
	"gauger/exact"
	"gauger/level"
	"gauger/levels"
	"gauger/shape"
	"gauger/sketch"
	"gauger/sketches"
)

// small tells a config of which the levels 0 and 1 are not exact, and 2 to 4 are.
func small(mode int) api.Config {
	return api.Config{Bits: 4, Rows: 2, Width: 5, Mode: mode, Seed: 9}
}

func TestKind(t *testing.T) {
	for _, mode := range configs.Modes() {
		for at, want := range [][]int64{
			{7, -8, 7, -8, 7, -8, 7, -8, 7, -8},
			{7, -8, 7, -8, 7, -8, 7, -8, 7, -8},
			{7, -8, 7, -8},
			{7, -8},
			{7},
		} {
			p := levels.At(small(mode), at)
			levels.Hold(t, either.Kind().Filled(p, want...), p, want)
			levels.Hold(t, either.Filled(p, want...), p, want)
			levels.Hold(t, either.Full(p, 7, -8), p, want)
		}
		for _, at := range []int{-1, 5} {
			p := levels.At(small(mode), at)
			if l := either.Filled(p, 7); l != nil {
				t.Errorf("%v is filled: %v", p, l)
			}
		}
		if l := either.Filled(levels.At(small(mode), 3), 7); l != nil {
			t.Errorf("two keys are filled with one number: %v", l)
		}
	}
}

// What is done to a level of either kind is done by the calls of package level.
func TestCalls(t *testing.T) {
	for at := range 5 {
		p := levels.At(small(api.Linear), at)
		a, b := either.Kind().Filled(p, either.Kind().Full(p, 5)...), either.Kind().Filled(p, either.Kind().Full(p, 3)...)
		copied := a.Copy()
		if e := a.Merge(b); e != api.OK {
			t.Errorf("Merge: %v", e)
		}
		levels.Hold(t, a, p, either.Kind().Full(p, 8))
		if e := b.Subtract(a); e != api.OK {
			t.Errorf("Subtract: %v", e)
		}
		levels.Hold(t, b, p, either.Kind().Full(p, -5))
		levels.Hold(t, copied, p, either.Kind().Full(p, 5))
	}
}

func TestWhat(t *testing.T) {
	s, a := sketches.Kind().Fed(levels.At(small(1), 3), nil), arrays.Kind().Fed(levels.At(small(1), 3), nil)
	for _, x := range []struct {
		l    level.Level
		want string
	}{
		{s, either.Sketch},
		{a, either.Array},
		{nil, either.None},
		{either.Level{Held: s}, either.None},
		{&either.Level{Held: a}, either.None},
		{(*sketch.Sketch)(nil), either.None},
		{(*exact.Array)(nil), either.None},
	} {
		if got := either.What(x.l); got != x.want {
			t.Errorf("%v is %s, not %s", x.l, got, x.want)
		}
	}
}

func TestKindOf(t *testing.T) {
	count := map[bool]int{}
	for _, c := range configs.Right() {
		for _, at := range configs.Levels(c.Bits) {
			is := shape.Exact(c, at)
			if got := either.KindOf(levels.At(c, at)); (got == either.Array) != is || (got == either.Sketch) == is {
				t.Errorf("level %d of %v has to be %s", at, c, got)
			}
			count[is]++
		}
	}
	if count[true] < 1000 || count[false] < 1000 {
		t.Errorf("too few levels that are exact, or are not: %v", count)
	}
}

func TestPlaces(t *testing.T) {
	modes, kinds := map[int]int{}, map[string]int{}
	for _, p := range either.Places() {
		if shape.Keys(p.Config, p.Level) == 0 {
			t.Errorf("%v is not there", p)
		}
		modes[p.Config.Mode]++
		kinds[either.KindOf(p)]++
	}
	if len(modes) != 3 || kinds[either.Sketch] < 200 || kinds[either.Array] < 200 {
		t.Errorf("too few modes, or kinds: %v, %v", modes, kinds)
	}
	for _, p := range arrays.Places() {
		if !slices.Contains(either.Places(), p) {
			t.Errorf("%v is left out", p)
		}
	}
}
