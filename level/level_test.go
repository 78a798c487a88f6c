package level_test

import (
	"math"
	"slices"
	"testing"

	"gauger/api"
	"gauger/arrays"
	"gauger/configs"
	"gauger/either"
	"gauger/level"
	"gauger/levels"
	"gauger/shape"
	"gauger/sketch"
	"gauger/sketches"
)

const (
	lowest  = math.MinInt64
	highest = math.MaxInt64
)

// A level has the calls that the chapter names, and no others.
var (
	_ level.Level  = levels.Level(nil)
	_ levels.Level = level.Level(nil)
)

// shared tells the sketch of a place, be it exact or not, with these numbers in its cells,
// by turns.
func shared(p levels.Place, turns ...int64) level.Level {
	return sketches.Kind().Filled(p, sketches.Kind().Full(p, turns...)...)
}

// hold holds what a level is, and tells of itself, against what is wanted.
func hold(t *testing.T, l level.Level, is string, p levels.Place, want []int64) {
	t.Helper()
	if got := either.What(l); got != is {
		t.Fatalf("of %v there is %s, not %s", p, got, is)
	}
	levels.Hold(t, l, p, want)
}

// holdNew holds New of a place against what is wanted, with noughts in as many cells.
func holdNew(t *testing.T, p levels.Place, is string, count int) {
	t.Helper()
	l, e := level.New(p.Config, p.Level)
	if e != api.OK {
		t.Fatalf("New of %v: %v, %v", p, l, e)
	}
	hold(t, l, is, p, make([]int64, count))
}

// The chapter's example.
func TestExample(t *testing.T) {
	for _, mode := range configs.Modes() {
		for rows := 1; rows <= api.MaxRows; rows++ {
			c := api.Config{Bits: 2, Rows: rows, Width: 2, Mode: mode, Seed: 5}
			holdNew(t, levels.At(c, 0), either.Sketch, 2*rows)
			holdNew(t, levels.At(c, 1), either.Array, 2)
			holdNew(t, levels.At(c, 2), either.Array, 1)
		}
	}
}

func TestNew(t *testing.T) {
	count := map[string]int{}
	for _, c := range configs.Right() {
		for _, at := range configs.Levels(c.Bits) {
			p := levels.At(c, at)
			holdNew(t, p, either.KindOf(p), either.Kind().Count(c, at))
			count[either.KindOf(p)]++
		}
	}
	if count[either.Sketch] < 1000 || count[either.Array] < 1000 {
		t.Errorf("too few levels that are exact, or are not: %v", count)
	}
}

// The first level that is exact, the last one that is not, the first one and the last one
// of all, and those just beyond: for each number of columns, and each of bits.
func TestNewAtTheEdges(t *testing.T) {
	for width := 1; width <= api.MaxWidth; width++ {
		for bits := 1; bits <= api.MaxBits; bits++ {
			c := api.Config{Bits: bits, Rows: 1 + bits%8, Width: width, Mode: 1 + width%3, Seed: uint64(width)}
			first := configs.Exact(c)
			for _, at := range []int{first, bits} {
				holdNew(t, levels.At(c, at), either.Array, 1<<(bits-at))
			}
			if first > 0 {
				holdNew(t, levels.At(c, first-1), either.Sketch, c.Rows*width)
				holdNew(t, levels.At(c, 0), either.Sketch, c.Rows*width)
			}
			either.Kind().NoneMade(t, []levels.Place{levels.At(c, -1), levels.At(c, bits+1)})
		}
	}
}

func TestNewNamed(t *testing.T) {
	const linear, conservative, median = api.Linear, api.Conservative, api.Median
	for _, x := range []struct {
		name  string
		c     api.Config
		level int
		is    string
		cells int
	}{
		{"the lowest level, exact", api.Config{Bits: 3, Rows: 2, Width: 8, Mode: linear}, 0, either.Array, 8},
		{"the lowest level, a column too few", api.Config{Bits: 3, Rows: 2, Width: 7, Mode: linear}, 0, either.Sketch, 14},
		{"above it", api.Config{Bits: 3, Rows: 2, Width: 7, Mode: conservative}, 1, either.Array, 4},
		{"the highest level", api.Config{Bits: 3, Rows: 2, Width: 1, Mode: median}, 3, either.Array, 1},
		{"below it", api.Config{Bits: 3, Rows: 2, Width: 1, Mode: median}, 2, either.Sketch, 2},
		{"one beyond", api.Config{Bits: 3, Rows: 2, Width: 8, Mode: median}, 4, "nil", 0},
		{"one below", api.Config{Bits: 3, Rows: 2, Width: 8, Mode: median}, -1, "nil", 0},
		{"far up, exact", api.Config{Bits: 59, Rows: 8, Width: 128, Mode: conservative}, 52, either.Array, 128},
		{"far up, not exact", api.Config{Bits: 59, Rows: 8, Width: 128, Mode: conservative}, 51, either.Sketch, 1024},
		{"as many keys as there may be", api.Config{Bits: 59, Rows: 8, Width: 128, Mode: linear}, 0, either.Sketch, 1024},
		{"the highest level of all", api.Config{Bits: 59, Rows: 8, Width: 128, Mode: linear}, 59, either.Array, 1},
		{"one beyond all", api.Config{Bits: 59, Rows: 8, Width: 128, Mode: linear}, 60, "nil", 0},
		{"the empty config", api.Config{}, 0, "nil", 0},
		{"no bits", api.Config{Rows: 2, Width: 8, Mode: linear}, 0, "nil", 0},
		{"a bit too much", api.Config{Bits: 60, Rows: 2, Width: 8, Mode: linear}, 59, "nil", 0},
		{"a bit too much, one level", api.Config{Bits: 60, Rows: 2, Width: 8, Mode: linear}, 60, "nil", 0},
		{"no rows", api.Config{Bits: 3, Width: 8, Mode: linear}, 3, "nil", 0},
		{"no rows, not exact", api.Config{Bits: 3, Width: 4, Mode: linear}, 0, "nil", 0},
		{"a row too much", api.Config{Bits: 3, Rows: 9, Width: 8, Mode: linear}, 3, "nil", 0},
		{"a row too much, not exact", api.Config{Bits: 3, Rows: 9, Width: 4, Mode: linear}, 0, "nil", 0},
		{"no columns", api.Config{Bits: 3, Rows: 2, Mode: linear}, 3, "nil", 0},
		{"a column too much", api.Config{Bits: 3, Rows: 2, Width: 129, Mode: linear}, 3, "nil", 0},
		{"a column too much, not exact", api.Config{Bits: 9, Rows: 2, Width: 129, Mode: linear}, 0, "nil", 0},
		{"no mode", api.Config{Bits: 3, Rows: 2, Width: 8}, 3, "nil", 0},
		{"no mode, not exact", api.Config{Bits: 3, Rows: 2, Width: 4}, 0, "nil", 0},
		{"a mode too much", api.Config{Bits: 3, Rows: 2, Width: 8, Mode: 4}, 3, "nil", 0},
		{"a mode too much, not exact", api.Config{Bits: 3, Rows: 2, Width: 4, Mode: 4}, 0, "nil", 0},
	} {
		t.Run(x.name, func(t *testing.T) {
			p := levels.At(x.c, x.level)
			if x.is == "nil" {
				either.Kind().NoneMade(t, []levels.Place{p})
				return
			}
			holdNew(t, p, x.is, x.cells)
		})
	}
}

// Configs that are not right in one of their fields, and levels that are not there: a
// level that is told beside the error would not be nil, be it a pointer to none.
func TestNewOfNone(t *testing.T) {
	either.Kind().NoneMade(t, levels.Nowhere())
	if l, e := level.New(api.Config{}, 0); l != nil || e != api.ErrArg {
		t.Errorf("New of nothing: %v, %v", l, e)
	}
}

// What is updated, refused, loaded, told, copied, and put together, as each kind of level
// has to do it.
func TestTrials(t *testing.T) {
	for _, x := range either.Kind().Trials() {
		t.Run(x.Name, func(t *testing.T) { x.Try(t, either.Places()) })
	}
}

// lower tells a level that is made of a place by the layer of its kind.
func lower(t *testing.T, p levels.Place) levels.Level {
	t.Helper()
	if p.Level < configs.Exact(p.Config) {
		return sketches.Kind().Fed(p, nil)
	}
	return arrays.Kind().Fed(p, nil)
}

// A level does what the layer of its kind does, update by update.
func TestAsItsKind(t *testing.T) {
	for i, p := range either.Places() {
		l, o := either.Full(p, 0), lower(t, p)
		for turn, u := range levels.Updates(i, 2*configs.Count(p.Config.Bits, p.Level)) {
			// Some that do not fit, and some keys that are not there.
			if turn%9 == 0 {
				u.Delta = highest
			}
			fails := o.Update(u.Key, u.Delta)
			levels.HoldUpdate(t, l, u.Key, u.Delta, fails, o.Cells())
			n, fails := o.Point(u.Key)
			levels.HoldPoint(t, l, u.Key, n, fails)
		}
	}
}

// Cells that were told, loaded into a level of the same config, make it the same: with
// what is told of keys, and taken further on.
func TestLoadedIsTheSame(t *testing.T) {
	for i, p := range either.Places() {
		l, o := either.Kind().Fed(p, levels.Taken(i, p)), either.Full(p, 0)
		cells := l.Cells()
		if !o.Load(cells) {
			t.Errorf("the cells of %v are not loaded", p)
		}
		hold(t, o, either.KindOf(p), p, cells)
		for _, key := range configs.Within(configs.Count(p.Config.Bits, p.Level)) {
			n, fails := l.Point(key)
			levels.HoldPoint(t, o, key, n, fails)
			fails = l.Update(key, 5)
			levels.HoldUpdate(t, o, key, 5, fails, l.Cells())
		}
	}
}

// others tells levels that are neither sketches nor arrays, with 7 in each cell, and none
// at all.
func others(p levels.Place) map[string]level.Level {
	return map[string]level.Level{"nil": nil, "another kind": either.Level{Held: either.Full(p, 7)}, "a pointer to it": &either.Level{Held: either.Full(p, 7)}}
}

// A copy is of the kind that was copied, and another one; sketches of exact levels are
// sketches.
func TestCopy(t *testing.T) {
	for _, p := range either.Places() {
		for is, l := range map[string]level.Level{either.KindOf(p): either.Full(p, 4, -3), either.Sketch: shared(p, 4, -3)} {
			copied, cells := level.Copy(l), l.Cells()
			hold(t, copied, is, p, cells)
			if copied == l {
				t.Errorf("the copy of %v is the level itself", p)
			}
			if !l.Load(make([]int64, len(cells))) {
				t.Errorf("noughts are not loaded into %v", p)
			}
			hold(t, copied, is, p, cells)
		}
	}
}

func TestCopyOfNone(t *testing.T) {
	for _, p := range either.Places() {
		for name, l := range others(p) {
			if copied := level.Copy(l); copied != nil {
				t.Errorf("the copy of %s is %v", name, copied)
			}
		}
	}
}

// panics tells whether MustSketch of the level panics; if not, what it tells.
func panics(l level.Level) (s *sketch.Sketch, does bool) {
	defer func() {
		if recover() != nil {
			s, does = nil, true
		}
	}()
	return level.MustSketch(l), false
}

// holdNoSketch holds that the level is no sketch.
func holdNoSketch(t *testing.T, name string, l level.Level) {
	t.Helper()
	if s, ok := level.AsSketch(l); s != nil || ok {
		t.Errorf("AsSketch of %s: %v, %t", name, s, ok)
	}
	if s, does := panics(l); !does {
		t.Errorf("MustSketch of %s: %v", name, s)
	}
}

// holdSketch holds that the level is this very sketch.
func holdSketch(t *testing.T, l level.Level, want *sketch.Sketch) {
	t.Helper()
	if s, ok := level.AsSketch(l); s != want || !ok {
		t.Errorf("AsSketch of %v: %v, %t", want, s, ok)
	}
	if s, does := panics(l); s != want || does {
		t.Errorf("MustSketch of %v: %v, and panics: %t", want, s, does)
	}
}

// What AsSketch and MustSketch tell is the sketch itself, no copy of it: what is done to
// it is done to the level.
func TestAsSketch(t *testing.T) {
	count := map[bool]int{}
	for _, p := range either.Places() {
		l := either.Full(p, 4, -3)
		cells := l.Cells()
		if either.KindOf(p) == either.Array {
			holdNoSketch(t, either.Array, l)
			hold(t, l, either.Array, p, cells)
		} else {
			s, _ := level.AsSketch(l)
			holdSketch(t, l, s)
			hold(t, l, either.Sketch, p, cells)
			if fails := s.Update(0, 5); fails != api.OK {
				t.Errorf("Update in %v: %v", p, fails)
			}
			hold(t, l, either.Sketch, p, s.Cells())
			if slices.Equal(l.Cells(), cells) {
				t.Errorf("%v was updated, but its cells are still %v", p, cells)
			}
		}
		count[shape.Exact(p.Config, p.Level)]++
	}
	if count[true] < 100 || count[false] < 100 {
		t.Errorf("too few that are exact, or are not: %v", count)
	}
}

// A sketch is one, whoever made it, be its level exact or not; a copy is another one.
func TestAsSketchOfSketches(t *testing.T) {
	for _, p := range either.Places() {
		s := sketches.Kind().Fed(p, nil)
		holdSketch(t, s, s)
		copied := level.Copy(s)
		if other, _ := level.AsSketch(copied); other == s || other == nil {
			t.Errorf("the sketch of a copy is %v, of %v", other, s)
		}
	}
}

func TestAsSketchOfNone(t *testing.T) {
	for _, p := range either.Places() {
		for name, l := range others(p) {
			holdNoSketch(t, name, l)
		}
	}
}
