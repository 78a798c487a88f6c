package sketches_test

import (
	"math"
	"slices"
	"testing"

	"gauger/api"
	"gauger/columns"
	"gauger/configs"
	"gauger/shape"
	"gauger/sketches"
)

// size tells how many rows and columns the config has.
func size(c api.Config) columns.Size {
	return columns.Size{Rows: c.Rows, Width: c.Width}
}

func TestConfigs(t *testing.T) {
	sizes := map[int][]columns.Size{}
	for _, c := range sketches.Configs() {
		if !shape.Right(c) {
			t.Errorf("%v is not right", c)
		}
		sizes[c.Mode] = append(sizes[c.Mode], size(c))
	}
	for _, mode := range configs.Modes() {
		if !slices.Equal(sizes[mode], columns.Sizes()) {
			t.Errorf("in the mode %d there are the sizes %v", mode, sizes[mode])
		}
	}
}

func TestSmall(t *testing.T) {
	all, keys := sketches.Configs(), map[uint64]int{}
	for i, c := range sketches.Small() {
		if !shape.Right(c) || size(c) != size(all[i]) || c.Mode != all[i].Mode || c.Seed != all[i].Seed {
			t.Errorf("%v is not right, or not as %v, but for its bits", c, all[i])
		}
		keys[shape.Keys(c, 0)]++
	}
	for n := range keys {
		if n > 64 {
			t.Errorf("there are %d keys", n)
		}
	}
	if len(keys) < 5 {
		t.Errorf("too few counts of keys: %v", keys)
	}
}

func TestFull(t *testing.T) {
	c := api.Config{Bits: 3, Rows: 2, Width: 3, Mode: api.Median}
	for _, x := range []struct{ turns, want []int64 }{
		{[]int64{7}, []int64{7, 7, 7, 7, 7, 7}},
		{[]int64{1, -2}, []int64{1, -2, 1, -2, 1, -2}},
		{[]int64{1, 2, 3, 4}, []int64{1, 2, 3, 4, 1, 2}},
		{[]int64{1, 2, 3, 4, 5, 6, 7}, []int64{1, 2, 3, 4, 5, 6}},
	} {
		if got := sketches.Full(c, x.turns...); !slices.Equal(got, x.want) {
			t.Errorf("%v by turns are %v", x.turns, got)
		}
	}
}

func TestFilled(t *testing.T) {
	for _, c := range sketches.Configs() {
		l := sketches.Full(c, 3, -4, math.MaxInt64)
		for _, level := range configs.Levels(c.Bits) {
			s := sketches.Filled(c, level, l...)
			if s == nil || s.Config() != c || s.Level() != level || !slices.Equal(s.Cells(), l) {
				t.Errorf("%v at level %d is not filled: %v", c, level, s)
			}
			if s := sketches.Filled(c, level, l[1:]...); s != nil {
				t.Errorf("%v at level %d is filled with too few: %v", c, level, s)
			}
		}
		if s := sketches.Filled(c, c.Bits+1, l...); s != nil {
			t.Errorf("%v has a level too much: %v", c, s)
		}
	}
}

func TestFed(t *testing.T) {
	all := []api.Update{{Key: 3, Delta: 5}, {Key: 0, Delta: -2}, {Key: 3, Delta: 7}}
	c := api.Config{Bits: 3, Rows: 2, Width: 1, Mode: api.Linear}
	s := sketches.Fed(c, 1, all)
	if s == nil || s.Config() != c || s.Level() != 1 || !slices.Equal(s.Cells(), []int64{10, 10}) {
		t.Errorf("the sketch that was fed is %v", s)
	}
	if s := sketches.Fed(c, 2, all); s != nil {
		t.Errorf("a key that is not there was fed to %v", s)
	}
	if s := sketches.Fed(c, 4, nil); s != nil {
		t.Errorf("%v has a level too much: %v", c, s)
	}
}
