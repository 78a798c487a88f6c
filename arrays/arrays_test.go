package arrays_test

import (
	"slices"
	"testing"

	"gauger/api"
	"gauger/arrays"
	"gauger/configs"
	"gauger/levels"
	"gauger/shape"
)

func TestKind(t *testing.T) {
	for _, mode := range configs.Modes() {
		c := api.Config{Bits: 5, Rows: 3, Width: 6, Mode: mode, Seed: 9}
		for level, want := range map[int][]int64{5: {7}, 4: {7, -8}, 3: {7, -8, 7, -8}} {
			p := levels.At(c, level)
			full := arrays.Kind().Full(p, 7, -8)
			if !slices.Equal(full, want) {
				t.Errorf("7 and -8 by turns are %v, not %v", full, want)
			}
			levels.Hold(t, arrays.Kind().Filled(p, full...), p, want)
		}
		if a := arrays.Kind().Filled(levels.At(c, 2), 1, 2, 3, 4, 5, 6, 7, 8); a != nil {
			t.Errorf("a level that is not exact is filled: %v", a)
		}
	}
}

// held holds what chapter 7 says of each place, and tells their sizes and modes.
func held(t *testing.T, all []levels.Place, exact bool) (sizes, modes map[int]int) {
	t.Helper()
	sizes, modes = map[int]int{}, map[int]int{}
	for _, p := range all {
		if shape.Exact(p.Config, p.Level) != exact || shape.Keys(p.Config, p.Level) == 0 {
			t.Errorf("%v is not there, or on the wrong side", p)
		}
		modes[p.Config.Mode]++
		if exact {
			sizes[arrays.Kind().Count(p.Config, p.Level)]++
		}
	}
	return sizes, modes
}

func TestParted(t *testing.T) {
	all := 0
	for _, c := range configs.Right() {
		all += c.Bits + 1
	}
	fine, other := arrays.Parted(configs.Right())
	sizes, _ := held(t, fine, true)
	held(t, other, false)
	if len(sizes) != 8 || len(fine)+len(other) != all || len(fine) < 1000 || len(other) < 1000 {
		t.Errorf("of %d levels %d are exact, of the sizes %v, and %d are not", all, len(fine), sizes, len(other))
	}
}

func TestPlaces(t *testing.T) {
	sizes, modes := held(t, arrays.Places(), true)
	if len(sizes) != 8 || len(modes) != 3 {
		t.Errorf("too few sizes, or modes: %v, %v", sizes, modes)
	}
}
