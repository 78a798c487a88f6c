// Package arrays has the levels that are exact, and the arrays of them, which the layers'
// tests try.
package arrays

import (
	"gauger/api"
	"gauger/configs"
	"gauger/exact"
	"gauger/levels"
	"gauger/sketches"
)

// Kind tells the kind of level that an array is, for its trials.
func Kind() levels.Kind[*exact.Array] {
	count := func(c api.Config, level int) int { return int(min(configs.Count(c.Bits, level), api.MaxWidth)) }
	return levels.Kind[*exact.Array]{New: exact.New, Count: count}
}

// Parted tells the levels of the configs that are exact, and those that are not.
func Parted(all []api.Config) (fine, other []levels.Place) {
	for _, c := range all {
		first := configs.Exact(c)
		for _, level := range configs.Levels(c.Bits) {
			if level >= first {
				fine = append(fine, levels.At(c, level))
			} else {
				other = append(other, levels.At(c, level))
			}
		}
	}
	return fine, other
}

// Places tells the exact levels of configs of each mode and size, and of those with as many
// keys as an exact level may have.
func Places() []levels.Place {
	all := append(sketches.Configs(), sketches.Small()...)
	for i, mode := range configs.Modes() {
		all = append(all, api.Config{Bits: 7 + i, Rows: 1 + i, Width: api.MaxWidth, Mode: mode, Seed: uint64(i)})
	}
	fine, _ := Parted(all)
	return fine
}
