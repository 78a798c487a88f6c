package stacks_test

import (
	"maps"
	"math"
	"slices"
	"testing"

	"gauger/api"
	"gauger/configs"
	"gauger/shape"
	"gauger/stacks"
)

// small tells a config of which the levels 0 and 1 are not exact, and 2 and 3 are.
func small(mode int) api.Config {
	return api.Config{Bits: 3, Rows: 1, Width: 3, Mode: mode, Seed: 7}
}

// same tells whether the cells are the same, level by level.
func same(a, b stacks.Cells) bool {
	return slices.EqualFunc(a, b, slices.Equal[[]int64])
}

// In each mode there are stacks all of whose levels are exact, some of which the highest
// one is alone, and some between; some with few keys, and some with as many as may be.
func TestConfigs(t *testing.T) {
	count, few, most := map[int]map[string]int{}, map[int]int{}, map[int]int{}
	for _, c := range stacks.Configs() {
		if c.Bits <= 6 {
			few[c.Mode]++
		} else if c.Bits == api.MaxBits {
			most[c.Mode]++
		}
		exact := 0
		for _, n := range configs.Levels(c.Bits) {
			if shape.Exact(c, n) {
				exact++
			}
		}
		is := stacks.SomeExact
		if exact == 1 {
			is = stacks.OneExact
		} else if exact == c.Bits+1 {
			is = stacks.AllExact
		}
		if got := stacks.Exact(c); got != is {
			t.Errorf("of %v %s are exact, not %s", c, is, got)
		}
		if count[c.Mode] == nil {
			count[c.Mode] = map[string]int{}
		}
		count[c.Mode][is]++
	}
	for _, mode := range configs.Modes() {
		all := count[mode]
		if len(all) != 3 || all[stacks.SomeExact] < 5 || all[stacks.OneExact] < 3 || all[stacks.AllExact] < 3 {
			t.Errorf("of the mode %d too few configs are exact at: %v", mode, all)
		}
		if few[mode] < 15 || most[mode] == 0 {
			t.Errorf("of the mode %d %d configs have few keys, and %d as many as may be", mode, few[mode], most[mode])
		}
	}
}

func TestGreatest(t *testing.T) {
	var modes []int
	for _, c := range stacks.Greatest() {
		if !shape.Right(c) || c.Bits != 59 || c.Rows != 8 || c.Width != 128 {
			t.Errorf("%v is not right, or not among the greatest", c)
		}
		modes = append(modes, c.Mode)
	}
	if !slices.Equal(modes, configs.Modes()) {
		t.Errorf("the modes are %v", modes)
	}
}

// All tells both, of the least number of bits to the greatest one.
func TestAll(t *testing.T) {
	all, bits := stacks.All(), map[int]int{}
	for _, c := range append(stacks.Configs(), stacks.Greatest()...) {
		if !slices.Contains(all, c) {
			t.Errorf("%v is not among all", c)
		}
	}
	for _, c := range all {
		if !shape.Right(c) {
			t.Errorf("%v is not right", c)
		}
		bits[c.Bits]++
	}
	if bits[1] == 0 || bits[api.MaxBits] < len(stacks.Greatest()) {
		t.Errorf("too few of the least number of bits, or of the greatest one: %v", bits)
	}
}

// All levels are exact, as long as there are few keys.
func TestOwn(t *testing.T) {
	for bits := 1; bits <= api.MaxBits; bits++ {
		for _, mode := range configs.Modes() {
			c := stacks.Own(bits, mode)
			if !shape.Right(c) || c.Bits != bits || c.Mode != mode || (stacks.Exact(c) == stacks.AllExact) != (bits <= 7) {
				t.Errorf("%d bits and the mode %d: %v, of which %s are exact", bits, mode, c, stacks.Exact(c))
			}
		}
	}
}

func TestFullAndFilled(t *testing.T) {
	for _, mode := range configs.Modes() {
		c, want := small(mode), stacks.Cells{{4, -5, 4}, {4, -5, 4}, {4, -5}, {4}}
		all := stacks.Full(c, 4, -5)
		if !same(all, want) {
			t.Errorf("4 and -5 by turns are %v", all)
		}
		s := stacks.Filled(c, all)
		stacks.Hold(t, s, c, want)
		if got := stacks.Told(s); !same(got, want) {
			t.Errorf("what is told is %v", got)
		}
		stacks.Hold(t, stacks.Filled(c, nil), c, stacks.Full(c, 0))
		if s := stacks.Filled(c, stacks.Cells{{4, -5, 4}, {4, -5}}); s != nil {
			t.Errorf("a stack is filled with too few: %v", s)
		}
		if s := stacks.Filled(c, append(want, []int64{4})); s != nil {
			t.Errorf("a level too much is filled: %v", s)
		}
	}
	for _, c := range configs.Wrong() {
		for _, all := range []stacks.Cells{nil, {{4}}} {
			if s := stacks.Filled(c, all); s != nil {
				t.Errorf("%v is filled: %v", c, s)
			}
		}
	}
}

// Whichever key of a level is asked for, it is told the level's number.
func TestEach(t *testing.T) {
	for _, mode := range configs.Modes() {
		c := small(mode)
		all := stacks.Each(c, 4, -5, math.MaxInt64, 0)
		if !same(all, stacks.Cells{{4, 4, 4}, {-5, -5, -5}, {math.MaxInt64, math.MaxInt64}, {0}}) {
			t.Errorf("a number for each level: %v", all)
		}
		s := stacks.Filled(c, all)
		for n, l := range all {
			for index := range configs.Count(c.Bits, n) {
				if got, e := s.Point(api.Piece{Level: n, Index: index}); got != l[0] || e != api.OK {
					t.Errorf("the key %d of level %d is told %d, %v", index, n, got, e)
				}
			}
		}
	}
}

func TestStrewn(t *testing.T) {
	for _, mode := range configs.Modes() {
		c := small(mode)
		all, other := stacks.Strewn(c, 5, 2), stacks.Strewn(c, 6, 2)
		for n, l := range all {
			if len(l) != []int{3, 3, 2, 1}[n] || slices.Max(l) >= 1<<61 || slices.Min(l) < -1<<61 {
				t.Errorf("level %d has %v", n, l)
			}
		}
		// Each level begins one further on.
		if !same(other[:2], stacks.Cells{all[1], append(all[1][1:3:3], other[1][2])}) {
			t.Errorf("from number 6 on there are %v, behind %v", other, all)
		}
		stacks.Hold(t, stacks.Filled(c, all), c, all)
	}
}

// Of each config there are stacks with few numbers below 0, and with many, each with as much
// as its size lets be; no two are the same.
func TestRough(t *testing.T) {
	for i, c := range stacks.All() {
		all := stacks.Rough(c, i)
		if len(all) != 7 {
			t.Fatalf("%d stacks of %v", len(all), c)
		}
		for j, s := range all {
			cells := stacks.Told(s)
			stacks.Hold(t, s, c, cells)
			if want := []int64{63, 1<<23 - 1, 1<<59 - 1, 1<<62 - 1, math.MaxInt64, 63, 1<<62 - 1}[j]; s.Total() != want {
				t.Errorf("the total of number %d of %v is %d, not %d", j, c, s.Total(), want)
			}
			below, count := 0, 0
			for _, l := range cells {
				for _, n := range l {
					count++
					if n < 0 {
						below++
					}
				}
			}
			// Of few numbers it may be none, or all.
			if count > 100 && (below*4 > count) != (j >= 5) {
				t.Errorf("of %d numbers of number %d of %v %d are below 0", count, j, c, below)
			}
			for _, other := range all[:j] {
				if c.Bits > 3 && same(cells, stacks.Told(other)) {
					t.Errorf("number %d of %v is as one ahead of it", j, c)
				}
			}
		}
	}
}

func TestFed(t *testing.T) {
	all := []api.Update{{Key: 6, Delta: 5}, {Key: 1, Delta: 2}, {Key: 6, Delta: 7}}
	for _, mode := range configs.Modes() {
		c := api.Config{Bits: 3, Rows: 2, Width: 8, Mode: mode, Seed: 7}
		stacks.Hold(t, stacks.Fed(c, nil), c, stacks.Full(c, 0))
		want := stacks.Cells{{0, 2, 0, 0, 0, 0, 12, 0}, {2, 0, 0, 12}, {2, 12}, {14}}
		stacks.Hold(t, stacks.Fed(c, all), c, want)
		for _, refused := range []api.Update{{Key: 8, Delta: 1}, {Key: 6, Delta: math.MaxInt64}} {
			if s := stacks.Fed(c, append(all[:3:3], refused)); s != nil {
				t.Errorf("%v was fed to %v", refused, s)
			}
		}
	}
	for _, c := range configs.Wrong() {
		for _, updates := range [][]api.Update{nil, {{Key: 0, Delta: 1}}} {
			if s := stacks.Fed(c, updates); s != nil {
				t.Errorf("%v is fed: %v", c, s)
			}
		}
	}
}

// counter counts what it is told is wrong.
type counter int

func (n *counter) Helper() {}

func (n *counter) Errorf(string, ...any) { *n++ }

// Answers are counted by the mode, by which levels are exact, and by the error; too few of a
// kind are found.
func TestAnswers(t *testing.T) {
	every := []string{stacks.AllExact, stacks.SomeExact, stacks.OneExact}
	all, count := stacks.Answers{}, map[stacks.Answer]int{}
	for i, c := range stacks.All() {
		fails := []api.Errno{api.OK, api.ErrRank, api.ErrKey}[i%3]
		all.Add(c, fails)
		count[stacks.Answer{Mode: c.Mode, Exact: stacks.Exact(c), Fails: fails}]++
		all.Add(c, api.OK)
		count[stacks.Answer{Mode: c.Mode, Exact: stacks.Exact(c), Fails: api.OK}]++
	}
	if !maps.Equal(all, count) {
		t.Errorf("counted are %v, not %v", all, count)
	}
	least := math.MaxInt
	for _, mode := range configs.Modes() {
		for _, exact := range every {
			least = min(least, count[stacks.Answer{Mode: mode, Exact: exact, Fails: api.OK}])
		}
	}
	var wrong counter
	if all.HoldMany(&wrong, api.OK, least, every...); wrong != 0 || least < 3 {
		t.Errorf("%d kinds are less than %d", wrong, least)
	}
	if all.HoldMany(&wrong, api.OK, least+1, every...); wrong == 0 {
		t.Errorf("no kind is less than %d", least+1)
	}
	wrong = 0
	if all.HoldMany(&wrong, api.ErrOverflow, 1, every...); wrong != 9 {
		t.Errorf("of nine kinds of which there is none %d are found", wrong)
	}
	wrong = 0
	if all.HoldMany(&wrong, api.ErrOverflow, 1, stacks.OneExact); wrong != 3 {
		t.Errorf("of three kinds of which there is none %d are found", wrong)
	}
}

// Hold finds another config, and a cell that is another one, at whichever level it is.
func TestHold(t *testing.T) {
	for _, c := range stacks.Configs() {
		s := stacks.Filled(c, stacks.Full(c, 3))
		other := c
		other.Seed++
		var wrong counter
		if stacks.Hold(&wrong, s, other, stacks.Full(c, 3)); wrong != 1 {
			t.Errorf("%v is taken for %v: %d", c, other, wrong)
		}
		for n := range stacks.Full(c, 3) {
			want := stacks.Full(c, 3)
			want[n][len(want[n])-1] = 4
			wrong = 0
			if stacks.Hold(&wrong, s, c, want); wrong == 0 {
				t.Errorf("at level %d of %v another cell is not found", n, c)
			}
		}
		wrong = 0
		if stacks.Hold(&wrong, s, c, stacks.Full(c, 3)); wrong != 0 {
			t.Errorf("in %v something is found that is not wrong: %d", c, wrong)
		}
	}
}
