// Package either has the levels of either kind, arrays and sketches, which the layers'
// tests try.
package either

import (
	"gauger/api"
	"gauger/arrays"
	"gauger/configs"
	"gauger/exact"
	"gauger/level"
	"gauger/levels"
	"gauger/sketch"
	"gauger/sketches"
)

// Held is a level by another name, as one that is embedded as Level would hide its call.
type Held = level.Level

// Level is a level of either kind, with what is done to levels as calls of its own. It has
// all calls of a level, but is one of another kind.
type Level struct{ Held }

// Copy tells a copy of the level.
func (l Level) Copy() Level { return Level{level.Copy(l.Held)} }

// Merge adds the other's cells.
func (l Level) Merge(o Level) api.Errno { return level.Merge(l.Held, o.Held) }

// Subtract takes the other's cells away.
func (l Level) Subtract(o Level) api.Errno { return level.Subtract(l.Held, o.Held) }

// Kind tells the kind of level that either of both is, for its trials.
func Kind() levels.Kind[Level] {
	count := func(c api.Config, at int) int {
		if KindOf(levels.At(c, at)) == Sketch {
			return sketches.Kind().Count(c, at)
		}
		return arrays.Kind().Count(c, at)
	}
	made := func(c api.Config, at int) (Level, api.Errno) {
		l, e := level.New(c, at)
		return Level{l}, e
	}
	return levels.Kind[Level]{New: made, Count: count}
}

// Filled tells the level of a place, with these cells; nil, if there is no such level, or
// it has not as many.
func Filled(p levels.Place, l ...int64) level.Level {
	return Kind().Filled(p, l...).Held
}

// Full tells the level of a place, with these numbers in its cells, by turns.
func Full(p levels.Place, turns ...int64) level.Level {
	return Filled(p, Kind().Full(p, turns...)...)
}

// Places tells the levels of configs of each mode and size, be they exact or not.
func Places() []levels.Place {
	_, other := arrays.Parted(append(sketches.Configs(), sketches.Small()...))
	return append(arrays.Places(), other...)
}

// What a level may be.
const (
	Sketch = "a sketch"
	Array  = "an array"
	None   = "none of both"
)

// What tells what a level is. A pointer to none is neither a sketch nor an array.
func What(l level.Level) string {
	switch x := l.(type) {
	case *sketch.Sketch:
		if x != nil {
			return Sketch
		}
	case *exact.Array:
		if x != nil {
			return Array
		}
	}
	return None
}

// KindOf tells what the level of a place that is there has to be, by the words of
// chapter 7.
func KindOf(p levels.Place) string {
	if p.Level < configs.Exact(p.Config) {
		return Sketch
	}
	return Array
}
