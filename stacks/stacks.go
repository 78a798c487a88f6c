// Package stacks has the stacks that the layers' tests try, filled with cells, or fed with
// updates.
package stacks

import (
	"math"
	"slices"

	"gauger/api"
	"gauger/configs"
	"gauger/either"
	"gauger/levels"
	"gauger/sketches"
	"gauger/stack"
)

// Cells are the numbers of all levels' cells, from level 0 on.
type Cells [][]int64

// Configs tells configs of each mode: some all of whose levels are exact, some of which the
// highest one is alone, and some between.
func Configs() []api.Config {
	return append(sketches.Configs(), sketches.Small()...)
}

// Greatest tells the configs with the most cells, one of each mode.
func Greatest() []api.Config {
	var all []api.Config
	for _, mode := range configs.Modes() {
		all = append(all, api.Config{Bits: api.MaxBits, Rows: api.MaxRows, Width: api.MaxWidth, Mode: mode, Seed: 77})
	}
	return all
}

// All tells both: configs of each mode and of all sizes, the least number of bits and the
// greatest one among them.
func All() []api.Config {
	return append(Configs(), Greatest()...)
}

// What levels of a config are exact.
const (
	AllExact  = "all levels"
	SomeExact = "some levels"
	OneExact  = "one level"
)

// Exact tells which levels of a right config are exact.
func Exact(c api.Config) string {
	switch configs.Exact(c) {
	case 0:
		return AllExact
	case c.Bits:
		return OneExact
	}
	return SomeExact
}

// Own tells a config of so many bits, each key of each level of which has a number of its own,
// if there are at most 128.
func Own(bits, mode int) api.Config {
	return api.Config{Bits: bits, Rows: 2, Width: api.MaxWidth, Mode: mode, Seed: 9}
}

// Full tells cells of all levels of the config, with these numbers by turns.
func Full(c api.Config, turns ...int64) Cells {
	var all Cells
	for _, n := range configs.Levels(c.Bits) {
		all = append(all, either.Kind().Full(levels.At(c, n), turns...))
	}
	return all
}

// Each tells cells of all levels of the config, at each level with one number: whichever key
// of it is asked for, it is told that.
func Each(c api.Config, numbers ...int64) Cells {
	var all Cells
	for n, l := range Full(c, 0) {
		all = append(all, slices.Repeat(numbers[n:n+1], len(l)))
	}
	return all
}

// Strewn tells cells of all levels of the config with strewn numbers, from the given one
// on.
func Strewn(c api.Config, from int, shift uint) Cells {
	var all Cells
	for _, n := range configs.Levels(c.Bits) {
		all = append(all, either.Kind().Strewn(levels.At(c, n), from+n, shift))
	}
	return all
}

// Filled tells the stack of a config, with these cells; nil, if it is not right, or some
// level has not as many.
func Filled(c api.Config, all Cells) *stack.Stack {
	s, fails := stack.New(c)
	if fails != api.OK {
		return nil
	}
	for n, l := range all {
		if !s.Load(n, l) {
			return nil
		}
	}
	return s
}

// Fed tells the stack of a config that was fed these updates; nil, if it is not right, or
// refuses one of them.
func Fed(c api.Config, all []api.Update) *stack.Stack {
	s, fails := stack.New(c)
	if fails != api.OK {
		return nil
	}
	for _, u := range all {
		if s.Update(u.Key, u.Delta) != api.OK {
			return nil
		}
	}
	return s
}

// Rough tells stacks of a right config with strewn numbers, from the given one on, so that a
// piece has not what its halves have, and with the greatest total that their size lets be:
// most of them with few numbers that are below 0, the last two with many.
func Rough(c api.Config, from int) []*stack.Stack {
	var all []*stack.Stack
	for i, shift := range []uint{57, 40, 4, 1, 0, 57, 1} {
		cells := Strewn(c, from+i, shift)
		for level, l := range cells {
			for at, n := range l {
				if i < 5 && (from+i+level+at)%16 > 0 {
					l[at] = max(n, -n, 1)
				}
			}
		}
		cells[c.Bits][0] = math.MaxInt64 >> shift
		all = append(all, Filled(c, cells))
	}
	return all
}

// Told tells the cells of all levels.
func Told(s *stack.Stack) Cells {
	var all Cells
	for _, n := range configs.Levels(s.Config().Bits) {
		all = append(all, s.Cells(n))
	}
	return all
}

// Hold holds the config, and the cells of all levels, against what is wanted.
func Hold(t levels.Tester, s *stack.Stack, c api.Config, want Cells) {
	t.Helper()
	if got := s.Config(); got != c {
		t.Errorf("a stack of %v, not of %v", got, c)
	}
	for n, l := range want {
		if got := s.Cells(n); !slices.Equal(got, l) {
			t.Errorf("level %d of %v has %v, not %v", n, c, got, l)
		}
	}
	if got := s.Total(); got != want[c.Bits][0] {
		t.Errorf("the total of %v is %d, not %d", c, got, want[c.Bits][0])
	}
}
