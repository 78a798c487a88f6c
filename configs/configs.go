// Package configs has the configs, levels and keys that the layers' tests try: those
// that are right, or there, and those that are not.
package configs

import (
	"math"
	"slices"

	"gauger/api"
	"gauger/strewn"
)

// Field is a field of a config that has limits, with numbers that it may be, and some
// that it may not: the limits met, and just missed on each side.
type Field struct {
	Name        string
	Put         func(c *api.Config, n int)
	Good, Wrong []int
}

// Fields tells all fields but Seed, which is any number.
func Fields() []Field {
	return []Field{
		{"Bits", func(c *api.Config, n int) { c.Bits = n }, []int{1, 2, 3, 31, 32, 33, 58, 59}, []int{0, -1, -59, 60, 61, 63, 64, 128}},
		{"Rows", func(c *api.Config, n int) { c.Rows = n }, []int{1, 2, 5, 7, 8}, []int{0, -1, -8, 9, 10, 59, 128}},
		{"Width", func(c *api.Config, n int) { c.Width = n }, []int{1, 2, 3, 64, 127, 128}, []int{0, -1, -128, 129, 130, 256}},
		{"Mode", func(c *api.Config, n int) { c.Mode = n }, Modes(), []int{0, -1, -2, -3, 4, 5, 8}},
	}
}

// Modes tells all modes.
func Modes() []int {
	return []int{api.Linear, api.Conservative, api.Median}
}

// Nowhere tells numbers that no field with limits may be.
func Nowhere() []int {
	return []int{
		math.MinInt, math.MinInt + 1, math.MaxInt - 1, math.MaxInt,
		1 << 32, 1<<32 + 1, 1<<32 + 3, -1 << 32, -1<<32 + 1, 1<<62 + 1, 257,
	}
}

// Seeds tells the edges of what a seed is.
func Seeds() []uint64 {
	return []uint64{0, 1, 99, 1<<59 - 1, 1<<61 - 1, 1 << 63, math.MaxUint64}
}

// Base tells a config that is right.
func Base() api.Config {
	return api.Config{Bits: 10, Rows: 3, Width: 7, Mode: api.Linear, Seed: 99}
}

// Right tells configs that are right, from the least to the greatest.
func Right() []api.Config {
	var all []api.Config
	for _, bits := range []int{1, 2, 3, 7, 8, 10, 33, 58, 59} {
		for _, rows := range []int{1, 2, 8} {
			for _, width := range []int{1, 2, 3, 7, 127, 128} {
				for i, seed := range Seeds() {
					all = append(all, api.Config{Bits: bits, Rows: rows, Width: width, Mode: 1 + i%3, Seed: seed})
				}
			}
		}
	}
	return all
}

// Wrong tells configs each of which has one number that may not be, and the empty one.
func Wrong() []api.Config {
	all := []api.Config{{}, {Seed: 99}}
	for _, f := range Fields() {
		for _, n := range slices.Concat(f.Wrong, Nowhere()) {
			c := Base()
			f.Put(&c, n)
			all = append(all, c)
		}
	}
	return all
}

// Others tells configs that are right, if this one is, each unlike it in one field.
func Others(c api.Config) []api.Config {
	var all []api.Config
	for _, f := range Fields() {
		for _, n := range f.Good {
			other := c
			f.Put(&other, n)
			all = append(all, other)
		}
	}
	for _, seed := range slices.Concat(Seeds(), []uint64{c.Seed - 1, c.Seed + 1}) {
		other := c
		other.Seed = seed
		all = append(all, other)
	}
	return slices.DeleteFunc(all, func(other api.Config) bool { return other == c })
}

// Levels tells all levels that a config of so many bits has.
func Levels(bits int) []int {
	var all []int
	for level := range bits + 1 {
		all = append(all, level)
	}
	return all
}

// Beyond tells numbers of levels that a config of so many bits has not.
func Beyond(bits int) []int {
	return []int{
		-1, -2, -64, math.MinInt, math.MinInt + 1, -1 << 32,
		bits + 1, bits + 2, 2*bits + 1, bits + 64, bits + 1<<32, math.MaxInt - 1, math.MaxInt,
	}
}

// Count tells how many keys a level that is there has, by doubling.
func Count(bits, level int) uint64 {
	n := uint64(1)
	for ; level < bits; level++ {
		n += n
	}
	return n
}

// Last tells the last key of so many bits.
func Last(bits int) uint64 {
	return Count(bits, 0) - 1
}

// Above tells, by halving, the key of the level to which the key of level 0 belongs.
func Above(key uint64, level int) uint64 {
	for range level {
		key /= 2
	}
	return key
}

// Exact tells the lowest level of a right config that has at most as many keys as there
// are columns, by doubling; the levels above it have less.
func Exact(c api.Config) int {
	level := c.Bits
	for keys := 2; keys <= c.Width && level > 0; keys += keys {
		level--
	}
	return level
}

// Within tells the first and the last of so many keys, some between, and those of
// strewn numbers.
func Within(count uint64) []uint64 {
	all := []uint64{0, count - 1, count / 2, (count - 1) / 2, count / 3}
	for _, x := range strewn.Numbers(5) {
		all = append(all, x%count)
	}
	return all
}

// Outside tells numbers that are none of so many keys; the first one is just behind
// the last key.
func Outside(count uint64) []uint64 {
	return []uint64{count, count + 1, 2 * count, 1 << 60, 1<<61 - 1, 1 << 63, math.MaxUint64}
}

// Reckoned is a key of a level, with its columns, which were reckoned apart from this
// program; the mode has no part in them.
type Reckoned struct {
	Config api.Config
	Level  int
	Key    uint64
	Cols   []int
}

// Known tells some keys with their columns.
func Known() []Reckoned {
	const full = math.MaxUint64
	var all []Reckoned
	for _, x := range []struct {
		bits, rows, width int
		seed              uint64
		level             int
		key               uint64
		cols              []int
	}{
		{59, 8, 128, 0, 0, 0, []int{119, 115, 108, 66, 45, 124, 51, 47}},
		{59, 8, 128, 0, 0, 1<<59 - 1, []int{40, 119, 118, 22, 24, 47, 16, 83}},
		{59, 8, 128, full, 59, 0, []int{75, 41, 84, 69, 110, 63, 0, 21}},
		{10, 3, 7, 99, 4, 63, []int{5, 0, 4}},
		{10, 3, 7, 99, 0, 1023, []int{3, 5, 6}},
		{10, 3, 7, 99, 10, 0, []int{0, 6, 0}},
		{3, 1, 1, 5, 2, 1, []int{0}},
		{3, 2, 2, 7, 0, 6, []int{0, 0}},
		{3, 2, 2, 7, 1, 3, []int{1, 0}},
		{3, 2, 2, 7, 2, 1, []int{1, 0}},
		{59, 4, 100, 12345, 30, 1<<29 - 1, []int{96, 35, 45, 94}},
		{45, 5, 127, 1 << 63, 17, 123456789, []int{3, 119, 81, 58, 77}},
	} {
		for _, mode := range Modes() {
			c := api.Config{Bits: x.bits, Rows: x.rows, Width: x.width, Mode: mode, Seed: x.seed}
			all = append(all, Reckoned{c, x.level, x.key, x.cols})
		}
	}
	return all
}
