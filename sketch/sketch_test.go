package sketch_test

import (
	"math"
	"math/big"
	"slices"
	"testing"

	"gauger/api"
	"gauger/columns"
	"gauger/configs"
	"gauger/conserve"
	"gauger/grid"
	"gauger/levels"
	"gauger/linear"
	"gauger/shape"
	"gauger/sketch"
	"gauger/sketches"
	"gauger/strewn"
)

const (
	lowest  = math.MinInt64
	highest = math.MaxInt64
)

// ofMode tells the config in another mode.
func ofMode(c api.Config, mode int) api.Config {
	c.Mode = mode
	return c
}

// places tells all levels of the configs.
func places() []levels.Place {
	var all []levels.Place
	for _, c := range sketches.Configs() {
		for _, level := range configs.Levels(c.Bits) {
			all = append(all, levels.At(c, level))
		}
	}
	return all
}

// made tells the sketch of a level that is there.
func made(t *testing.T, c api.Config, level int) *sketch.Sketch {
	t.Helper()
	s, e := sketch.New(c, level)
	if s == nil || e != api.OK {
		t.Fatalf("New of %v at level %d: %v, %v", c, level, s, e)
	}
	return s
}

// The chapter's example.
func TestExample(t *testing.T) {
	s := made(t, api.Config{Bits: 3, Rows: 2, Width: 1, Mode: api.Linear, Seed: 9}, 0)
	if e := s.Update(0, 5); e != api.OK {
		t.Error(e)
	}
	if e := s.Update(1, 2); e != api.OK {
		t.Error(e)
	}
	if n, e := s.Point(0); n != 7 || e != api.OK {
		t.Errorf("Point: %d, %v", n, e)
	}
}

// All keys share one column, in each mode.
func TestOneColumn(t *testing.T) {
	for _, c := range sketches.Configs() {
		if c.Width > 1 {
			continue
		}
		for level := range c.Bits {
			s := made(t, c, level)
			levels.HoldUpdate(t, s, 0, 5, api.OK, sketches.Full(c, 5))
			levels.HoldUpdate(t, s, 1, 2, api.OK, sketches.Full(c, 7))
			for _, key := range configs.Within(configs.Count(c.Bits, level)) {
				levels.HoldPoint(t, s, key, 7, api.OK)
			}
		}
	}
}

// Exact levels are made as well as all others.
func TestNew(t *testing.T) {
	exact := map[bool]int{}
	for _, c := range configs.Right() {
		for _, level := range configs.Levels(c.Bits) {
			levels.Hold(t, made(t, c, level), levels.At(c, level), sketches.Full(c, 0))
			exact[shape.Exact(c, level)]++
		}
	}
	if exact[true] < 100 || exact[false] < 100 {
		t.Errorf("too few that are exact, or are not: %v", exact)
	}
}

func TestNewNamed(t *testing.T) {
	for _, x := range []struct {
		name  string
		c     api.Config
		level int
		fails api.Errno
	}{
		{"the lowest level", api.Config{Bits: 3, Rows: 2, Width: 2, Mode: api.Linear}, 0, api.OK},
		{"an exact level", api.Config{Bits: 3, Rows: 2, Width: 2, Mode: api.Conservative}, 2, api.OK},
		{"an exact lowest level", api.Config{Bits: 3, Rows: 2, Width: 8, Mode: api.Median}, 0, api.OK},
		{"the highest level", api.Config{Bits: 3, Rows: 2, Width: 2, Mode: api.Median}, 3, api.OK},
		{"one beyond", api.Config{Bits: 3, Rows: 2, Width: 2, Mode: api.Median}, 4, api.ErrArg},
		{"one below", api.Config{Bits: 3, Rows: 2, Width: 2, Mode: api.Linear}, -1, api.ErrArg},
		{"the highest of all", api.Config{Bits: 59, Rows: 8, Width: 128, Mode: api.Linear}, 59, api.OK},
		{"one beyond all", api.Config{Bits: 59, Rows: 8, Width: 128, Mode: api.Linear}, 60, api.ErrArg},
		{"the empty config", api.Config{}, 0, api.ErrArg},
		{"a bit too much", api.Config{Bits: 60, Rows: 2, Width: 2, Mode: api.Linear}, 0, api.ErrArg},
		{"no rows", api.Config{Bits: 3, Width: 2, Mode: api.Linear}, 0, api.ErrArg},
		{"a row too much", api.Config{Bits: 3, Rows: 9, Width: 2, Mode: api.Linear}, 0, api.ErrArg},
		{"no columns", api.Config{Bits: 3, Rows: 2, Mode: api.Linear}, 3, api.ErrArg},
		{"a column too much", api.Config{Bits: 3, Rows: 2, Width: 129, Mode: api.Linear}, 3, api.ErrArg},
		{"no mode", api.Config{Bits: 3, Rows: 2, Width: 2}, 0, api.ErrArg},
		{"a mode too much", api.Config{Bits: 3, Rows: 2, Width: 2, Mode: 4}, 0, api.ErrArg},
		{"a wrong config and level", api.Config{Bits: 3, Rows: 2, Width: 2, Mode: 4}, 4, api.ErrArg},
	} {
		s, e := sketch.New(x.c, x.level)
		if e != x.fails || (s != nil) != (e == api.OK) {
			t.Errorf("%s: %v, %v", x.name, s, e)
		}
		if s != nil {
			levels.Hold(t, s, levels.At(x.c, x.level), sketches.Full(x.c, 0))
		}
	}
}

func TestNewOfNone(t *testing.T) {
	sketches.Kind().NoneMade(t, levels.Nowhere())
}

// What is updated, refused, loaded, told, copied, and put together, as each kind of level
// has to do it.
func TestTrials(t *testing.T) {
	for _, x := range sketches.Kind().Trials() {
		t.Run(x.Name, func(t *testing.T) { x.Try(t, places()) })
	}
}

// named tells the cells of a sketch with noughts, but these numbers where the columns are.
func named(c api.Config, cols []int, numbers ...int64) []int64 {
	all := sketches.Full(c, 0)
	for row, col := range cols {
		all[row*c.Width+col] = numbers[row]
	}
	return all
}

// The columns that are wanted here were reckoned apart from this program.
func TestUpdateNamed(t *testing.T) {
	for _, x := range configs.Known() {
		c, s := x.Config, made(t, x.Config, x.Level)
		of := func(n int64) []int64 { return named(c, x.Cols, slices.Repeat([]int64{n}, c.Rows)...) }
		levels.HoldPoint(t, s, x.Key, 0, api.OK)
		levels.HoldUpdate(t, s, x.Key, 5, api.OK, of(5))
		levels.HoldUpdate(t, s, x.Key, 7, api.OK, of(12))
		levels.HoldPoint(t, s, x.Key, 12, api.OK)
		fails, rest := api.OK, int64(-8)
		if c.Mode == api.Conservative {
			fails, rest = api.ErrMode, 12
		}
		levels.HoldUpdate(t, s, x.Key, -20, fails, of(rest))
		levels.HoldPoint(t, s, x.Key, rest, api.OK)
		levels.HoldUpdate(t, s, x.Key, 0, api.OK, of(rest))
	}
}

// What each mode does to cells that other keys have changed, too, and what it tells of
// them: those of the key are 6, 8 and 19 at first.
func TestModesNamed(t *testing.T) {
	var before []int64
	for n := range int64(21) {
		before = append(before, n+1)
	}
	for _, x := range []struct {
		mode        int
		d           int64
		fails       api.Errno
		want        []int64
		point, then int64
	}{
		{api.Linear, 10, api.OK, []int64{16, 18, 29}, 6, 16},
		{api.Conservative, 10, api.OK, []int64{16, 16, 19}, 6, 16},
		{api.Median, 10, api.OK, []int64{16, 18, 29}, 8, 18},
		{api.Linear, 2, api.OK, []int64{8, 10, 21}, 6, 8},
		{api.Conservative, 2, api.OK, []int64{8, 8, 19}, 6, 8},
		{api.Conservative, 1, api.OK, []int64{7, 8, 19}, 6, 7},
		{api.Median, 2, api.OK, []int64{8, 10, 21}, 8, 10},
		{api.Linear, 0, api.OK, []int64{6, 8, 19}, 6, 6},
		{api.Conservative, 0, api.OK, []int64{6, 8, 19}, 6, 6},
		{api.Median, 0, api.OK, []int64{6, 8, 19}, 8, 8},
		{api.Linear, -10, api.OK, []int64{-4, -2, 9}, 6, -4},
		{api.Conservative, -10, api.ErrMode, []int64{6, 8, 19}, 6, 6},
		{api.Conservative, -1, api.ErrMode, []int64{6, 8, 19}, 6, 6},
		{api.Median, -10, api.OK, []int64{-4, -2, 9}, 8, -2},
		// The sum of the row with the most just fits, and just does not; in the mode
		// Conservative that of the least one counts alone.
		{api.Linear, highest - 19, api.OK, []int64{highest - 13, highest - 11, highest}, 6, highest - 13},
		{api.Linear, highest - 18, api.ErrOverflow, []int64{6, 8, 19}, 6, 6},
		{api.Median, highest - 19, api.OK, []int64{highest - 13, highest - 11, highest}, 8, highest - 11},
		{api.Median, highest - 18, api.ErrOverflow, []int64{6, 8, 19}, 8, 8},
		{api.Conservative, highest - 18, api.OK, []int64{highest - 12, highest - 12, highest - 12}, 6, highest - 12},
		{api.Conservative, highest - 6, api.OK, []int64{highest, highest, highest}, 6, highest},
		{api.Conservative, highest - 5, api.ErrOverflow, []int64{6, 8, 19}, 6, 6},
		{api.Linear, lowest, api.OK, []int64{lowest + 6, lowest + 8, lowest + 19}, 6, lowest + 6},
		{api.Median, lowest, api.OK, []int64{lowest + 6, lowest + 8, lowest + 19}, 8, lowest + 8},
	} {
		c := ofMode(configs.Base(), x.mode)
		s := sketches.Filled(c, 4, before...)
		levels.HoldPoint(t, s, 63, x.point, api.OK)
		want := slices.Clone(before)
		want[5], want[7], want[18] = x.want[0], x.want[1], x.want[2]
		levels.HoldUpdate(t, s, 63, x.d, x.fails, want)
		levels.HoldPoint(t, s, 63, x.then, api.OK)
	}
}

// The first and the last key of each level, and some between.
func TestKeys(t *testing.T) {
	for _, c := range sketches.Configs() {
		for _, level := range configs.Levels(c.Bits) {
			for _, key := range configs.Within(configs.Count(c.Bits, level)) {
				s, numbers := made(t, c, level), slices.Repeat([]int64{9}, c.Rows)
				levels.HoldUpdate(t, s, key, 9, api.OK, named(c, shape.Columns(c, level, key), numbers...))
				levels.HoldPoint(t, s, key, 9, api.OK)
			}
		}
	}
}

// after tells by whole numbers what a key's cells have behind an update by d, and what
// it answers.
func after(mode int, numbers []int64, d int64) ([]int64, api.Errno) {
	rises := mode == api.Conservative
	if rises && d < 0 {
		return numbers, api.ErrMode
	}
	all := slices.Clone(numbers)
	for row, n := range numbers {
		if rises {
			n = slices.Min(numbers)
		}
		sum := new(big.Int).Add(big.NewInt(n), big.NewInt(d))
		if !sum.IsInt64() {
			return numbers, api.ErrOverflow
		}
		if !rises || sum.Int64() > all[row] {
			all[row] = sum.Int64()
		}
	}
	return all, api.OK
}

// Each edge in each row alone: the others have room, or, in the mode Conservative, none,
// as the least one's sum alone counts there.
func TestEdgesInOneRow(t *testing.T) {
	count := map[int]map[api.Errno]int{}
	for i, c := range sketches.Configs() {
		level := i % (c.Bits + 1)
		key := configs.Count(c.Bits, level) - 1
		cols := shape.Columns(c, level, key)
		for row := range cols {
			for _, x := range levels.Edges() {
				other := -x.D / 2
				if c.Mode == api.Conservative {
					other = highest
				}
				numbers := slices.Repeat([]int64{other}, c.Rows)
				numbers[row] = x.N
				behind, fails := after(c.Mode, numbers, x.D)
				// Cells of other columns may have any number.
				before := sketches.Full(c, highest, lowest, x.N)
				want := slices.Clone(before)
				for row, col := range cols {
					before[row*c.Width+col], want[row*c.Width+col] = numbers[row], behind[row]
				}
				levels.HoldUpdate(t, sketches.Filled(c, level, before...), key, x.D, fails, want)
				if count[c.Mode] == nil {
					count[c.Mode] = map[api.Errno]int{}
				}
				count[c.Mode][fails]++
			}
		}
	}
	for _, mode := range configs.Modes() {
		if count[mode][api.OK] < 100 || count[mode][api.ErrOverflow] < 100 {
			t.Errorf("too few of some answers in the mode %d: %v", mode, count[mode])
		}
	}
}

// Updates of strewn keys, one behind another, of which some are refused, held against
// Columns of shape, and Change of linear, or Raise of conserve.
func TestUpdateOfAll(t *testing.T) {
	count := map[api.Errno]int{}
	for i, c := range sketches.Configs() {
		for _, level := range []int{0, c.Bits / 2, c.Bits} {
			s, g := made(t, c, level), grid.New(c.Rows, c.Width)
			change, keys := linear.Change, configs.Within(configs.Count(c.Bits, level))
			if c.Mode == api.Conservative {
				change = conserve.Raise
			}
			for turn, d := range strewn.Signed(i, 60, uint(i%6)) {
				key := keys[turn%len(keys)]
				fails := change(g, shape.Columns(c, level, key), d)
				levels.HoldUpdate(t, s, key, d, fails, g.Cells())
				count[fails]++
				for _, key := range keys {
					holdTold(t, s, key)
				}
			}
		}
	}
	if len(count) != 3 || count[api.OK] < 200 || count[api.ErrMode] < 200 || count[api.ErrOverflow] < 200 {
		t.Errorf("too few of some answers, or others: %v", count)
	}
}

// holdTold holds what is told of the key against the numbers of its cells, in order.
func holdTold(t *testing.T, s *sketch.Sketch, key uint64) {
	t.Helper()
	c := s.Config()
	ordered := columns.Named(s.Cells(), shape.Columns(c, s.Level(), key), c.Width)
	slices.Sort(ordered)
	want := ordered[0]
	if c.Mode == api.Median {
		want = ordered[(len(ordered)-1)/2]
	}
	if n, e := s.Point(key); n != want || e != api.OK {
		t.Errorf("Point of %d in %v, whose cells have %v: %d, %v", key, c, ordered, n, e)
	}
}

// The least and the middle one of the numbers of one column.
func TestPointNamed(t *testing.T) {
	for _, x := range []struct {
		l             []int64
		least, middle int64
	}{
		{[]int64{7}, 7, 7},
		{[]int64{lowest}, lowest, lowest},
		{[]int64{8, 2}, 2, 2},
		{[]int64{2, 8}, 2, 2},
		{[]int64{-8, -2}, -8, -8},
		{[]int64{5, 1, 3}, 1, 3},
		{[]int64{9, 1, 7, 3}, 1, 3},
		{[]int64{9, 1, 7, 3, 5}, 1, 5},
		{[]int64{highest, lowest, 0}, lowest, 0},
		{[]int64{0, 0, -4, 0}, -4, 0},
		{[]int64{8, 7, 6, 5, 4, 3, 2, 1}, 1, 4},
		{[]int64{1, -2, 3, -4, 5, -6, 7, -8}, -8, -2},
	} {
		for mode, want := range map[int]int64{api.Linear: x.least, api.Conservative: x.least, api.Median: x.middle} {
			c := api.Config{Bits: 2, Rows: len(x.l), Width: 1, Mode: mode}
			s := sketches.Filled(c, 1, x.l...)
			levels.HoldPoint(t, s, 0, want, api.OK)
			levels.HoldPoint(t, s, 1, want, api.OK)
		}
	}
}

func TestPointOfAll(t *testing.T) {
	for i, c := range sketches.Configs() {
		for _, level := range configs.Levels(c.Bits) {
			l := strewn.Signed(i+level, c.Rows*c.Width, uint(level))
			s := sketches.Filled(c, level, l...)
			for _, key := range configs.Within(configs.Count(c.Bits, level)) {
				holdTold(t, s, key)
			}
			levels.Hold(t, s, levels.At(c, level), l)
		}
	}
}

func TestLoadNamed(t *testing.T) {
	c := api.Config{Bits: 6, Rows: 2, Width: 3, Mode: api.Conservative, Seed: 5}
	s := sketches.Filled(c, 0, 1, -2, 3, -4, 5, lowest)
	for _, l := range [][]int64{nil, {}, {7}, {7, 7, 7}, {7, 7, 7, 7, 7}, {7, 7, 7, 7, 7, 7, 7}, make([]int64, 12)} {
		if s.Load(l) {
			t.Errorf("%v is loaded", l)
		}
	}
	levels.Hold(t, s, levels.At(c, 0), []int64{1, -2, 3, -4, 5, lowest})
}

func TestJoinedNamed(t *testing.T) {
	for _, mode := range configs.Modes() {
		c := api.Config{Bits: 6, Rows: 2, Width: 2, Mode: mode, Seed: 5}
		a, b := []int64{1, 2, 3, 4}, []int64{10, -20, 30, -40}
		plus, minus := []int64{11, -18, 33, -36}, []int64{-9, 22, -27, 44}
		sketches.Kind().HoldJoined(t, levels.At(c, 0), a, b, plus, minus)
		sketches.Kind().HoldJoined(t, levels.At(c, 6), b, a, plus, []int64{9, -22, 27, -44})
		a, b = []int64{highest, lowest, 0, -1}, []int64{0, 0, highest, lowest + 1}
		plus, minus = []int64{highest, lowest, highest, lowest}, []int64{highest, lowest, -highest, highest - 1}
		sketches.Kind().HoldJoined(t, levels.At(c, 3), a, b, plus, minus)
	}
}

// ofSums calls for each level of the small configs whose cells are sums, with how many
// keys it has.
func ofSums(call func(from int, c api.Config, level int, keys uint64)) {
	for i, c := range sketches.Small() {
		if c.Mode == api.Conservative {
			continue
		}
		for _, level := range configs.Levels(c.Bits) {
			call(i, c, level, configs.Count(c.Bits, level))
		}
	}
}

// The chapter's section "What follows": in the modes Linear and Median a cell is the sum
// of what all keys have whose column it is; in the mode Linear Point is what the key has,
// and the least sum of what others have in its columns.
func TestWhatFollows(t *testing.T) {
	ofSums(func(from int, c api.Config, level int, keys uint64) {
		all := levels.Updates(from, keys)
		s, has := sketches.Fed(c, level, all), levels.Sums(keys, all)
		want := sketches.Full(c, 0)
		for key, n := range has {
			for row, col := range shape.Columns(c, level, uint64(key)) {
				want[row*c.Width+col] += n
			}
		}
		levels.Hold(t, s, levels.At(c, level), want)
		for key, n := range has {
			if c.Mode == api.Linear {
				levels.HoldPoint(t, s, uint64(key), n+leastOfOthers(c, level, has, uint64(key)), api.OK)
			}
		}
	})
}

// leastOfOthers tells the least sum, of those of all rows, of what other keys have whose
// column is that of the key.
func leastOfOthers(c api.Config, level int, has []int64, key uint64) int64 {
	var all []int64
	cols := shape.Columns(c, level, key)
	for row := range cols {
		sum := int64(0)
		for other, n := range has {
			if uint64(other) != key && shape.Columns(c, level, uint64(other))[row] == cols[row] {
				sum += n
			}
		}
		all = append(all, sum)
	}
	return slices.Min(all)
}

// In the modes Linear and Median a merged sketch is the one that was fed all that both
// were, and one is taken away again.
func TestFedTogether(t *testing.T) {
	ofSums(func(from int, c api.Config, level int, keys uint64) {
		first, second := levels.Updates(from, keys), levels.Updates(from+20, keys)
		s, o := sketches.Fed(c, level, first), sketches.Fed(c, level, second)
		alone, both := s.Cells(), sketches.Fed(c, level, slices.Concat(second, first))
		if e := s.Merge(o); e != api.OK {
			t.Errorf("Merge: %v", e)
		}
		levels.Hold(t, s, levels.At(c, level), both.Cells())
		if e := s.Subtract(o); e != api.OK {
			t.Errorf("Subtract: %v", e)
		}
		levels.Hold(t, s, levels.At(c, level), alone)
	})
}

// Of what is not below 0, no key is told less than it has, and in the mode Conservative
// none is told more than in the mode Linear: behind updates, and behind a merge.
func TestBetween(t *testing.T) {
	less := 0
	for i, c := range sketches.Small() {
		if c.Mode != api.Conservative {
			continue
		}
		keys := configs.Count(c.Bits, 0)
		first, second := levels.Rises(i, keys), levels.Rises(i+1, keys)
		s, o := sketches.Fed(c, 0, first), sketches.Fed(c, 0, second)
		if e := s.Merge(o); e != api.OK {
			t.Errorf("Merge: %v", e)
		}
		all := slices.Concat(first, second)
		most := sketches.Fed(ofMode(c, api.Linear), 0, all)
		for key, n := range levels.Sums(keys, all) {
			told, _ := s.Point(uint64(key))
			end, _ := most.Point(uint64(key))
			if told < n || told > end {
				t.Errorf("%d has %d, and is told %d, and in the mode Linear %d", key, n, told, end)
			}
			if told < end {
				less++
			}
		}
	}
	if less < 10 {
		t.Errorf("too few keys are told less than in the mode Linear: %d", less)
	}
}
