// Package sketches has the sketches that the layers' tests try, filled with cells, or fed
// with updates.
package sketches

import (
	"gauger/api"
	"gauger/columns"
	"gauger/configs"
	"gauger/levels"
	"gauger/sketch"
)

// Configs tells configs of each mode, of all sizes that columns can meet.
func Configs() []api.Config {
	bits, seeds := []int{10, 1, 33, 2, 59, 7, 3, 58}, configs.Seeds()
	var all []api.Config
	for _, mode := range configs.Modes() {
		for i, x := range columns.Sizes() {
			c := api.Config{Bits: bits[i%len(bits)], Rows: x.Rows, Width: x.Width, Mode: mode, Seed: seeds[i%len(seeds)]}
			all = append(all, c)
		}
	}
	return all
}

// Small tells such configs with few keys, at most 64.
func Small() []api.Config {
	all := Configs()
	for i := range all {
		all[i].Bits = 1 + i%6
	}
	return all
}

// Kind tells the kind of level that a sketch is, for its trials.
func Kind() levels.Kind[*sketch.Sketch] {
	count := func(c api.Config, _ int) int { return c.Rows * c.Width }
	return levels.Kind[*sketch.Sketch]{New: sketch.New, Count: count}
}

// Full tells as many numbers as the config's grid has cells, the given ones by turns.
func Full(c api.Config, turns ...int64) []int64 {
	return Kind().Full(levels.At(c, 0), turns...)
}

// Filled tells the sketch of a level, with these cells; nil, if there is no such level,
// or it has not as many.
func Filled(c api.Config, level int, l ...int64) *sketch.Sketch {
	return Kind().Filled(levels.At(c, level), l...)
}

// Fed tells the sketch of a level that was fed these updates; nil, if there is no such
// level, or it refuses one of them.
func Fed(c api.Config, level int, all []api.Update) *sketch.Sketch {
	return Kind().Fed(levels.At(c, level), all)
}
