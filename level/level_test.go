package level_test

import (
	"math"
	"slices"
	"testing"

	"gauger/api"
	"gauger/arrays"
	"gauger/configs"
	"gauger/exact"
	"gauger/level"
	"gauger/levels"
	"gauger/shape"
	"gauger/sketch"
	"gauger/sketches"
)

const (
	lowest  = math.MinInt64
	highest = math.MaxInt64
)

// A level has the calls that the chapter names, and no others.
var (
	_ level.Level  = levels.Level(nil)
	_ levels.Level = level.Level(nil)
)

// held is a level by another name, as one that is embedded as Level would hide its call.
type held = level.Level

// either is a level of either kind, with what is done to levels as calls of its own. It
// has all calls of a level, but is one of another kind.
type either struct{ held }

func (l either) Copy() either { return either{level.Copy(l.held)} }

func (l either) Merge(o either) api.Errno { return level.Merge(l.held, o.held) }

func (l either) Subtract(o either) api.Errno { return level.Subtract(l.held, o.held) }

// kind tells the kind of level that either of both is, for its trials.
func kind() levels.Kind[either] {
	count := func(c api.Config, at int) int {
		if at < configs.Exact(c) {
			return sketches.Kind().Count(c, at)
		}
		return arrays.Kind().Count(c, at)
	}
	made := func(c api.Config, at int) (either, api.Errno) {
		l, e := level.New(c, at)
		return either{l}, e
	}
	return levels.Kind[either]{New: made, Count: count}
}

// filled tells the level of a place, with these cells.
func filled(p levels.Place, l ...int64) level.Level {
	return kind().Filled(p, l...).held
}

// full tells the level of a place, with these numbers in its cells, by turns.
func full(p levels.Place, turns ...int64) level.Level {
	return filled(p, kind().Full(p, turns...)...)
}

// shared tells the sketch of a place, be it exact or not, with these numbers in its cells,
// by turns.
func shared(p levels.Place, turns ...int64) level.Level {
	return sketches.Kind().Filled(p, sketches.Kind().Full(p, turns...)...)
}

// places tells the levels of configs of each mode and size, be they exact or not.
func places() []levels.Place {
	_, other := arrays.Parted(append(sketches.Configs(), sketches.Small()...))
	return append(arrays.Places(), other...)
}

// what tells what a level is.
func what(l level.Level) string {
	switch x := l.(type) {
	case nil:
		return "nil"
	case *sketch.Sketch:
		if x != nil {
			return "a sketch"
		}
	case *exact.Array:
		if x != nil {
			return "an array"
		}
	}
	return "none of both"
}

// hold holds what a level is, and tells of itself, against what is wanted.
func hold(t *testing.T, l level.Level, is string, p levels.Place, want []int64) {
	t.Helper()
	if got := what(l); got != is {
		t.Fatalf("of %v there is %s, not %s", p, got, is)
	}
	levels.Hold(t, l, p, want)
}

// kindOf tells what New has to make of a place, by the words of chapter 7.
func kindOf(p levels.Place) string {
	if p.Level < configs.Exact(p.Config) {
		return "a sketch"
	}
	return "an array"
}

// holdNew holds New of a place against what is wanted, with noughts in as many cells.
func holdNew(t *testing.T, p levels.Place, is string, count int) {
	t.Helper()
	l, e := level.New(p.Config, p.Level)
	if e != api.OK {
		t.Fatalf("New of %v: %v, %v", p, l, e)
	}
	hold(t, l, is, p, make([]int64, count))
}

// The chapter's example.
func TestExample(t *testing.T) {
	for _, mode := range configs.Modes() {
		for rows := 1; rows <= api.MaxRows; rows++ {
			c := api.Config{Bits: 2, Rows: rows, Width: 2, Mode: mode, Seed: 5}
			holdNew(t, levels.At(c, 0), "a sketch", 2*rows)
			holdNew(t, levels.At(c, 1), "an array", 2)
			holdNew(t, levels.At(c, 2), "an array", 1)
		}
	}
}

func TestNew(t *testing.T) {
	count := map[string]int{}
	for _, c := range configs.Right() {
		for _, at := range configs.Levels(c.Bits) {
			p := levels.At(c, at)
			holdNew(t, p, kindOf(p), kind().Count(c, at))
			count[kindOf(p)]++
		}
	}
	if count["a sketch"] < 1000 || count["an array"] < 1000 {
		t.Errorf("too few levels that are exact, or are not: %v", count)
	}
}

// The first level that is exact, the last one that is not, the first one and the last one
// of all, and those just beyond: for each number of columns, and each of bits.
func TestNewAtTheEdges(t *testing.T) {
	for width := 1; width <= api.MaxWidth; width++ {
		for bits := 1; bits <= api.MaxBits; bits++ {
			c := api.Config{Bits: bits, Rows: 1 + bits%8, Width: width, Mode: 1 + width%3, Seed: uint64(width)}
			first := configs.Exact(c)
			for _, at := range []int{first, bits} {
				holdNew(t, levels.At(c, at), "an array", 1<<(bits-at))
			}
			if first > 0 {
				holdNew(t, levels.At(c, first-1), "a sketch", c.Rows*width)
				holdNew(t, levels.At(c, 0), "a sketch", c.Rows*width)
			}
			kind().NoneMade(t, []levels.Place{levels.At(c, -1), levels.At(c, bits+1)})
		}
	}
}

func TestNewNamed(t *testing.T) {
	const linear, conservative, median = api.Linear, api.Conservative, api.Median
	for _, x := range []struct {
		name  string
		c     api.Config
		level int
		is    string
		cells int
	}{
		{"the lowest level, exact", api.Config{Bits: 3, Rows: 2, Width: 8, Mode: linear}, 0, "an array", 8},
		{"the lowest level, a column too few", api.Config{Bits: 3, Rows: 2, Width: 7, Mode: linear}, 0, "a sketch", 14},
		{"above it", api.Config{Bits: 3, Rows: 2, Width: 7, Mode: conservative}, 1, "an array", 4},
		{"the highest level", api.Config{Bits: 3, Rows: 2, Width: 1, Mode: median}, 3, "an array", 1},
		{"below it", api.Config{Bits: 3, Rows: 2, Width: 1, Mode: median}, 2, "a sketch", 2},
		{"one beyond", api.Config{Bits: 3, Rows: 2, Width: 8, Mode: median}, 4, "nil", 0},
		{"one below", api.Config{Bits: 3, Rows: 2, Width: 8, Mode: median}, -1, "nil", 0},
		{"far up, exact", api.Config{Bits: 59, Rows: 8, Width: 128, Mode: conservative}, 52, "an array", 128},
		{"far up, not exact", api.Config{Bits: 59, Rows: 8, Width: 128, Mode: conservative}, 51, "a sketch", 1024},
		{"as many keys as there may be", api.Config{Bits: 59, Rows: 8, Width: 128, Mode: linear}, 0, "a sketch", 1024},
		{"the highest level of all", api.Config{Bits: 59, Rows: 8, Width: 128, Mode: linear}, 59, "an array", 1},
		{"one beyond all", api.Config{Bits: 59, Rows: 8, Width: 128, Mode: linear}, 60, "nil", 0},
		{"the empty config", api.Config{}, 0, "nil", 0},
		{"no bits", api.Config{Rows: 2, Width: 8, Mode: linear}, 0, "nil", 0},
		{"a bit too much", api.Config{Bits: 60, Rows: 2, Width: 8, Mode: linear}, 59, "nil", 0},
		{"a bit too much, one level", api.Config{Bits: 60, Rows: 2, Width: 8, Mode: linear}, 60, "nil", 0},
		{"no rows", api.Config{Bits: 3, Width: 8, Mode: linear}, 3, "nil", 0},
		{"no rows, not exact", api.Config{Bits: 3, Width: 4, Mode: linear}, 0, "nil", 0},
		{"a row too much", api.Config{Bits: 3, Rows: 9, Width: 8, Mode: linear}, 3, "nil", 0},
		{"a row too much, not exact", api.Config{Bits: 3, Rows: 9, Width: 4, Mode: linear}, 0, "nil", 0},
		{"no columns", api.Config{Bits: 3, Rows: 2, Mode: linear}, 3, "nil", 0},
		{"a column too much", api.Config{Bits: 3, Rows: 2, Width: 129, Mode: linear}, 3, "nil", 0},
		{"a column too much, not exact", api.Config{Bits: 9, Rows: 2, Width: 129, Mode: linear}, 0, "nil", 0},
		{"no mode", api.Config{Bits: 3, Rows: 2, Width: 8}, 3, "nil", 0},
		{"no mode, not exact", api.Config{Bits: 3, Rows: 2, Width: 4}, 0, "nil", 0},
		{"a mode too much", api.Config{Bits: 3, Rows: 2, Width: 8, Mode: 4}, 3, "nil", 0},
		{"a mode too much, not exact", api.Config{Bits: 3, Rows: 2, Width: 4, Mode: 4}, 0, "nil", 0},
	} {
		t.Run(x.name, func(t *testing.T) {
			p := levels.At(x.c, x.level)
			if x.is == "nil" {
				kind().NoneMade(t, []levels.Place{p})
				return
			}
			holdNew(t, p, x.is, x.cells)
		})
	}
}

// Configs that are not right in one of their fields, and levels that are not there: a
// level that is told beside the error would not be nil, be it a pointer to none.
func TestNewOfNone(t *testing.T) {
	kind().NoneMade(t, levels.Nowhere())
	if l, e := level.New(api.Config{}, 0); l != nil || e != api.ErrArg {
		t.Errorf("New of nothing: %v, %v", l, e)
	}
}

// What is updated, refused, loaded, told, copied, and put together, as each kind of level
// has to do it.
func TestTrials(t *testing.T) {
	for _, x := range kind().Trials() {
		t.Run(x.Name, func(t *testing.T) { x.Try(t, places()) })
	}
}

// lower tells a level that is made of a place by the layer of its kind.
func lower(t *testing.T, p levels.Place) levels.Level {
	t.Helper()
	if p.Level < configs.Exact(p.Config) {
		return sketches.Kind().Fed(p, nil)
	}
	return arrays.Kind().Fed(p, nil)
}

// A level does what the layer of its kind does, update by update.
func TestAsItsKind(t *testing.T) {
	for i, p := range places() {
		l, o := full(p, 0), lower(t, p)
		for turn, u := range levels.Updates(i, 2*configs.Count(p.Config.Bits, p.Level)) {
			// Some that do not fit, and some keys that are not there.
			if turn%9 == 0 {
				u.Delta = highest
			}
			fails := o.Update(u.Key, u.Delta)
			levels.HoldUpdate(t, l, u.Key, u.Delta, fails, o.Cells())
			n, fails := o.Point(u.Key)
			levels.HoldPoint(t, l, u.Key, n, fails)
		}
	}
}

// Cells that were told, loaded into a level of the same config, make it the same: with
// what is told of keys, and taken further on.
func TestLoadedIsTheSame(t *testing.T) {
	for i, p := range places() {
		l, o := kind().Fed(p, levels.Taken(i, p)), full(p, 0)
		cells := l.Cells()
		if !o.Load(cells) {
			t.Errorf("the cells of %v are not loaded", p)
		}
		hold(t, o, kindOf(p), p, cells)
		for _, key := range configs.Within(configs.Count(p.Config.Bits, p.Level)) {
			n, fails := l.Point(key)
			levels.HoldPoint(t, o, key, n, fails)
			fails = l.Update(key, 5)
			levels.HoldUpdate(t, o, key, 5, fails, l.Cells())
		}
	}
}

// others tells levels that are neither sketches nor arrays, with 7 in each cell, and none
// at all.
func others(p levels.Place) map[string]level.Level {
	return map[string]level.Level{"nil": nil, "another kind": either{full(p, 7)}, "a pointer to it": &either{full(p, 7)}}
}

// A copy is of the kind that was copied, and another one; sketches of exact levels are
// sketches.
func TestCopy(t *testing.T) {
	for _, p := range places() {
		for is, l := range map[string]level.Level{kindOf(p): full(p, 4, -3), "a sketch": shared(p, 4, -3)} {
			copied, cells := level.Copy(l), l.Cells()
			hold(t, copied, is, p, cells)
			if copied == l {
				t.Errorf("the copy of %v is the level itself", p)
			}
			if !l.Load(make([]int64, len(cells))) {
				t.Errorf("noughts are not loaded into %v", p)
			}
			hold(t, copied, is, p, cells)
		}
	}
}

func TestCopyOfNone(t *testing.T) {
	for _, p := range places() {
		for name, l := range others(p) {
			if copied := level.Copy(l); copied != nil {
				t.Errorf("the copy of %s is %v", name, copied)
			}
		}
	}
}

// panics tells whether MustSketch of the level panics; if not, what it tells.
func panics(l level.Level) (s *sketch.Sketch, does bool) {
	defer func() {
		if recover() != nil {
			s, does = nil, true
		}
	}()
	return level.MustSketch(l), false
}

// holdNoSketch holds that the level is no sketch.
func holdNoSketch(t *testing.T, name string, l level.Level) {
	t.Helper()
	if s, ok := level.AsSketch(l); s != nil || ok {
		t.Errorf("AsSketch of %s: %v, %t", name, s, ok)
	}
	if s, does := panics(l); !does {
		t.Errorf("MustSketch of %s: %v", name, s)
	}
}

// holdSketch holds that the level is this very sketch.
func holdSketch(t *testing.T, l level.Level, want *sketch.Sketch) {
	t.Helper()
	if s, ok := level.AsSketch(l); s != want || !ok {
		t.Errorf("AsSketch of %v: %v, %t", want, s, ok)
	}
	if s, does := panics(l); s != want || does {
		t.Errorf("MustSketch of %v: %v, and panics: %t", want, s, does)
	}
}

// What AsSketch and MustSketch tell is the sketch itself, no copy of it: what is done to
// it is done to the level.
func TestAsSketch(t *testing.T) {
	count := map[bool]int{}
	for _, p := range places() {
		l := full(p, 4, -3)
		cells := l.Cells()
		if kindOf(p) == "an array" {
			holdNoSketch(t, "an array", l)
			hold(t, l, "an array", p, cells)
		} else {
			s, _ := level.AsSketch(l)
			holdSketch(t, l, s)
			hold(t, l, "a sketch", p, cells)
			if fails := s.Update(0, 5); fails != api.OK {
				t.Errorf("Update in %v: %v", p, fails)
			}
			hold(t, l, "a sketch", p, s.Cells())
			if slices.Equal(l.Cells(), cells) {
				t.Errorf("%v was updated, but its cells are still %v", p, cells)
			}
		}
		count[shape.Exact(p.Config, p.Level)]++
	}
	if count[true] < 100 || count[false] < 100 {
		t.Errorf("too few that are exact, or are not: %v", count)
	}
}

// A sketch is one, whoever made it, be its level exact or not; a copy is another one.
func TestAsSketchOfSketches(t *testing.T) {
	for _, p := range places() {
		s := sketches.Kind().Fed(p, nil)
		holdSketch(t, s, s)
		copied := level.Copy(s)
		if other, _ := level.AsSketch(copied); other == s || other == nil {
			t.Errorf("the sketch of a copy is %v, of %v", other, s)
		}
	}
}

func TestAsSketchOfNone(t *testing.T) {
	for _, p := range places() {
		for name, l := range others(p) {
			holdNoSketch(t, name, l)
		}
	}
}
