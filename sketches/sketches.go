// Package sketches has the sketches that the layers' tests try, with what their cells are
// filled, and their keys are updated by.
package sketches

import (
	"slices"

	"gauger/api"
	"gauger/columns"
	"gauger/configs"
	"gauger/sketch"
	"gauger/strewn"
)

// Configs tells configs of each mode, of all sizes that columns can meet.
func Configs() []api.Config {
	bits, seeds := []int{10, 1, 33, 2, 59, 7, 3, 58}, configs.Seeds()
	var all []api.Config
	for _, mode := range configs.Modes() {
		for i, x := range columns.Sizes() {
			c := api.Config{Bits: bits[i%len(bits)], Rows: x.Rows, Width: x.Width, Mode: mode, Seed: seeds[i%len(seeds)]}
			all = append(all, c)
		}
	}
	return all
}

// Small tells such configs with few keys, at most 64.
func Small() []api.Config {
	all := Configs()
	for i := range all {
		all[i].Bits = 1 + i%6
	}
	return all
}

// Full tells as many numbers as the config's grid has cells, the given ones by turns.
func Full(c api.Config, turns ...int64) []int64 {
	count := c.Rows * c.Width
	return slices.Repeat(turns, count)[:count]
}

// Filled tells the sketch of a level, with these cells; nil, if there is no such level,
// or it has not as many.
func Filled(c api.Config, level int, l ...int64) *sketch.Sketch {
	s, fails := sketch.New(c, level)
	if fails != api.OK || !s.Load(l) {
		return nil
	}
	return s
}

// Updates tells strewn updates of so many keys, less than 2^63 together.
func Updates(from int, keys uint64) []api.Update {
	var all []api.Update
	numbers := strewn.Numbers(from + 80)[from:]
	for i, d := range strewn.Signed(from+9, 80, 8) {
		all = append(all, api.Update{Key: numbers[i] % keys, Delta: d})
	}
	return all
}

// Rises tells updates of the same keys, none of which is below 0.
func Rises(from int, keys uint64) []api.Update {
	all := Updates(from, keys)
	for i := range all {
		all[i].Delta &= 1<<54 - 1
	}
	return all
}

// Fed tells the sketch of a level that was fed these updates; nil, if there is no such
// level, or it refuses one of them.
func Fed(c api.Config, level int, all []api.Update) *sketch.Sketch {
	s, fails := sketch.New(c, level)
	if fails != api.OK {
		return nil
	}
	for _, u := range all {
		if s.Update(u.Key, u.Delta) != api.OK {
			return nil
		}
	}
	return s
}

// Sums tells what each of so many keys has by the updates.
func Sums(keys uint64, all []api.Update) []int64 {
	has := make([]int64, keys)
	for _, u := range all {
		has[u.Key] += u.Delta
	}
	return has
}
