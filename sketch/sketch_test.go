package sketch_test

import (
	"math"
	"math/big"
	"slices"
	"testing"

	"gauger/api"
	"gauger/columns"
	"gauger/configs"
	"gauger/conserve"
	"gauger/grid"
	"gauger/linear"
	"gauger/shape"
	"gauger/sketch"
	"gauger/sketches"
	"gauger/strewn"
)

const (
	lowest  = math.MinInt64
	highest = math.MaxInt64
)

// ofMode tells the config in another mode.
func ofMode(c api.Config, mode int) api.Config {
	c.Mode = mode
	return c
}

// made tells the sketch of a level that is there.
func made(t *testing.T, c api.Config, level int) *sketch.Sketch {
	t.Helper()
	s, e := sketch.New(c, level)
	if s == nil || e != api.OK {
		t.Fatalf("New of %v at level %d: %v, %v", c, level, s, e)
	}
	return s
}

// hold holds all that a sketch tells of itself against these.
func hold(t *testing.T, s *sketch.Sketch, c api.Config, level int, want []int64) {
	t.Helper()
	if s.Config() != c || s.Level() != level {
		t.Errorf("a sketch of %v at level %d, not of %v at level %d", s.Config(), s.Level(), c, level)
	}
	if got := s.Cells(); !slices.Equal(got, want) {
		t.Errorf("the cells of %v at level %d are %v, not %v", c, level, got, want)
	}
}

// holdUpdate updates the key by d, and holds the cells behind it against what is wanted;
// ahead of it, Check answers the same, and changes nothing.
func holdUpdate(t *testing.T, s *sketch.Sketch, key uint64, d int64, fails api.Errno, want []int64) {
	t.Helper()
	before := s.Cells()
	if e := s.Check(key, d); e != fails {
		t.Errorf("Check of %d by %d in %v at level %d: %v, not %v", key, d, s.Config(), s.Level(), e, fails)
	}
	hold(t, s, s.Config(), s.Level(), before)
	if e := s.Update(key, d); e != fails {
		t.Errorf("Update of %d by %d in %v at level %d: %v, not %v", key, d, s.Config(), s.Level(), e, fails)
	}
	hold(t, s, s.Config(), s.Level(), want)
}

// holdPoint holds what is told of the key against what is wanted.
func holdPoint(t *testing.T, s *sketch.Sketch, key uint64, want int64) {
	t.Helper()
	before := s.Cells()
	if n, e := s.Point(key); n != want || e != api.OK {
		t.Errorf("Point of %d in %v at level %d: %d, %v, not %d", key, s.Config(), s.Level(), n, e, want)
	}
	hold(t, s, s.Config(), s.Level(), before)
}

// The chapter's example.
func TestExample(t *testing.T) {
	s := made(t, api.Config{Bits: 3, Rows: 2, Width: 1, Mode: api.Linear, Seed: 9}, 0)
	if e := s.Update(0, 5); e != api.OK {
		t.Error(e)
	}
	if e := s.Update(1, 2); e != api.OK {
		t.Error(e)
	}
	if n, e := s.Point(0); n != 7 || e != api.OK {
		t.Errorf("Point: %d, %v", n, e)
	}
}

// All keys share one column, in each mode.
func TestOneColumn(t *testing.T) {
	for _, c := range sketches.Configs() {
		if c.Width > 1 {
			continue
		}
		for level := range c.Bits {
			s := made(t, c, level)
			holdUpdate(t, s, 0, 5, api.OK, sketches.Full(c, 5))
			holdUpdate(t, s, 1, 2, api.OK, sketches.Full(c, 7))
			for _, key := range configs.Within(configs.Count(c.Bits, level)) {
				holdPoint(t, s, key, 7)
			}
		}
	}
}

// Exact levels are made as well as all others.
func TestNew(t *testing.T) {
	exact := map[bool]int{}
	for _, c := range configs.Right() {
		for _, level := range configs.Levels(c.Bits) {
			hold(t, made(t, c, level), c, level, sketches.Full(c, 0))
			exact[shape.Exact(c, level)]++
		}
	}
	if exact[true] < 100 || exact[false] < 100 {
		t.Errorf("too few that are exact, or are not: %v", exact)
	}
}

func TestNewNamed(t *testing.T) {
	for _, x := range []struct {
		name  string
		c     api.Config
		level int
		fails api.Errno
	}{
		{"the lowest level", api.Config{Bits: 3, Rows: 2, Width: 2, Mode: api.Linear}, 0, api.OK},
		{"an exact level", api.Config{Bits: 3, Rows: 2, Width: 2, Mode: api.Conservative}, 2, api.OK},
		{"an exact lowest level", api.Config{Bits: 3, Rows: 2, Width: 8, Mode: api.Median}, 0, api.OK},
		{"the highest level", api.Config{Bits: 3, Rows: 2, Width: 2, Mode: api.Median}, 3, api.OK},
		{"one beyond", api.Config{Bits: 3, Rows: 2, Width: 2, Mode: api.Median}, 4, api.ErrArg},
		{"one below", api.Config{Bits: 3, Rows: 2, Width: 2, Mode: api.Linear}, -1, api.ErrArg},
		{"the highest of all", api.Config{Bits: 59, Rows: 8, Width: 128, Mode: api.Linear}, 59, api.OK},
		{"one beyond all", api.Config{Bits: 59, Rows: 8, Width: 128, Mode: api.Linear}, 60, api.ErrArg},
		{"the empty config", api.Config{}, 0, api.ErrArg},
		{"a bit too much", api.Config{Bits: 60, Rows: 2, Width: 2, Mode: api.Linear}, 0, api.ErrArg},
		{"no rows", api.Config{Bits: 3, Width: 2, Mode: api.Linear}, 0, api.ErrArg},
		{"a row too much", api.Config{Bits: 3, Rows: 9, Width: 2, Mode: api.Linear}, 0, api.ErrArg},
		{"no columns", api.Config{Bits: 3, Rows: 2, Mode: api.Linear}, 3, api.ErrArg},
		{"a column too much", api.Config{Bits: 3, Rows: 2, Width: 129, Mode: api.Linear}, 3, api.ErrArg},
		{"no mode", api.Config{Bits: 3, Rows: 2, Width: 2}, 0, api.ErrArg},
		{"a mode too much", api.Config{Bits: 3, Rows: 2, Width: 2, Mode: 4}, 0, api.ErrArg},
		{"a wrong config and level", api.Config{Bits: 3, Rows: 2, Width: 2, Mode: 4}, 4, api.ErrArg},
	} {
		s, e := sketch.New(x.c, x.level)
		if e != x.fails || (s != nil) != (e == api.OK) {
			t.Errorf("%s: %v, %v", x.name, s, e)
		}
		if s != nil {
			hold(t, s, x.c, x.level, sketches.Full(x.c, 0))
		}
	}
}

func TestNewOfNone(t *testing.T) {
	for _, c := range configs.Wrong() {
		for _, level := range []int{0, 1, 5, 9, 10, 11, 59, 60, -1, c.Bits, c.Bits - 1, math.MaxInt, math.MinInt} {
			if s, e := sketch.New(c, level); s != nil || e != api.ErrArg {
				t.Errorf("New of %v at level %d: %v, %v", c, level, s, e)
			}
		}
	}
	for _, c := range configs.Right() {
		for _, level := range configs.Beyond(c.Bits) {
			if s, e := sketch.New(c, level); s != nil || e != api.ErrArg {
				t.Errorf("New of %v at level %d: %v, %v", c, level, s, e)
			}
		}
	}
}

// named tells the cells of a sketch with noughts, but these numbers where the columns are.
func named(c api.Config, cols []int, numbers ...int64) []int64 {
	all := sketches.Full(c, 0)
	for row, col := range cols {
		all[row*c.Width+col] = numbers[row]
	}
	return all
}

// The columns that are wanted here were reckoned apart from this program.
func TestUpdateNamed(t *testing.T) {
	for _, x := range configs.Known() {
		c, s := x.Config, made(t, x.Config, x.Level)
		of := func(n int64) []int64 { return named(c, x.Cols, slices.Repeat([]int64{n}, c.Rows)...) }
		holdPoint(t, s, x.Key, 0)
		holdUpdate(t, s, x.Key, 5, api.OK, of(5))
		holdUpdate(t, s, x.Key, 7, api.OK, of(12))
		holdPoint(t, s, x.Key, 12)
		fails, rest := api.OK, int64(-8)
		if c.Mode == api.Conservative {
			fails, rest = api.ErrMode, 12
		}
		holdUpdate(t, s, x.Key, -20, fails, of(rest))
		holdPoint(t, s, x.Key, rest)
		holdUpdate(t, s, x.Key, 0, api.OK, of(rest))
	}
}

// What each mode does to cells that other keys have changed, too, and what it tells of
// them: those of the key are 6, 8 and 19 at first.
func TestModesNamed(t *testing.T) {
	var before []int64
	for n := range int64(21) {
		before = append(before, n+1)
	}
	for _, x := range []struct {
		mode        int
		d           int64
		fails       api.Errno
		want        []int64
		point, then int64
	}{
		{api.Linear, 10, api.OK, []int64{16, 18, 29}, 6, 16},
		{api.Conservative, 10, api.OK, []int64{16, 16, 19}, 6, 16},
		{api.Median, 10, api.OK, []int64{16, 18, 29}, 8, 18},
		{api.Linear, 2, api.OK, []int64{8, 10, 21}, 6, 8},
		{api.Conservative, 2, api.OK, []int64{8, 8, 19}, 6, 8},
		{api.Conservative, 1, api.OK, []int64{7, 8, 19}, 6, 7},
		{api.Median, 2, api.OK, []int64{8, 10, 21}, 8, 10},
		{api.Linear, 0, api.OK, []int64{6, 8, 19}, 6, 6},
		{api.Conservative, 0, api.OK, []int64{6, 8, 19}, 6, 6},
		{api.Median, 0, api.OK, []int64{6, 8, 19}, 8, 8},
		{api.Linear, -10, api.OK, []int64{-4, -2, 9}, 6, -4},
		{api.Conservative, -10, api.ErrMode, []int64{6, 8, 19}, 6, 6},
		{api.Conservative, -1, api.ErrMode, []int64{6, 8, 19}, 6, 6},
		{api.Median, -10, api.OK, []int64{-4, -2, 9}, 8, -2},
		// The sum of the row with the most just fits, and just does not; in the mode
		// Conservative that of the least one counts alone.
		{api.Linear, highest - 19, api.OK, []int64{highest - 13, highest - 11, highest}, 6, highest - 13},
		{api.Linear, highest - 18, api.ErrOverflow, []int64{6, 8, 19}, 6, 6},
		{api.Median, highest - 19, api.OK, []int64{highest - 13, highest - 11, highest}, 8, highest - 11},
		{api.Median, highest - 18, api.ErrOverflow, []int64{6, 8, 19}, 8, 8},
		{api.Conservative, highest - 18, api.OK, []int64{highest - 12, highest - 12, highest - 12}, 6, highest - 12},
		{api.Conservative, highest - 6, api.OK, []int64{highest, highest, highest}, 6, highest},
		{api.Conservative, highest - 5, api.ErrOverflow, []int64{6, 8, 19}, 6, 6},
		{api.Linear, lowest, api.OK, []int64{lowest + 6, lowest + 8, lowest + 19}, 6, lowest + 6},
		{api.Median, lowest, api.OK, []int64{lowest + 6, lowest + 8, lowest + 19}, 8, lowest + 8},
	} {
		c := ofMode(configs.Base(), x.mode)
		s := sketches.Filled(c, 4, before...)
		holdPoint(t, s, 63, x.point)
		want := slices.Clone(before)
		want[5], want[7], want[18] = x.want[0], x.want[1], x.want[2]
		holdUpdate(t, s, 63, x.d, x.fails, want)
		holdPoint(t, s, 63, x.then)
	}
}

// The first and the last key of each level, and some between.
func TestKeys(t *testing.T) {
	for _, c := range sketches.Configs() {
		for _, level := range configs.Levels(c.Bits) {
			for _, key := range configs.Within(configs.Count(c.Bits, level)) {
				s, numbers := made(t, c, level), slices.Repeat([]int64{9}, c.Rows)
				holdUpdate(t, s, key, 9, api.OK, named(c, shape.Columns(c, level, key), numbers...))
				holdPoint(t, s, key, 9)
			}
		}
	}
}

// The key behind the last one, and others that are not there: also where the mode would
// refuse d, or a sum would not fit.
func TestNoSuchKey(t *testing.T) {
	for _, c := range sketches.Configs() {
		for i, level := range configs.Levels(c.Bits) {
			l := sketches.Full(c, [][]int64{{highest}, {lowest}, {0}, {highest, lowest, 7}}[i%4]...)
			s := sketches.Filled(c, level, l...)
			for _, key := range configs.Outside(configs.Count(c.Bits, level)) {
				for _, d := range []int64{0, 1, -1, highest, lowest} {
					holdUpdate(t, s, key, d, api.ErrKey, l)
				}
				if n, e := s.Point(key); n != 0 || e != api.ErrKey {
					t.Errorf("Point of %d in %v at level %d: %d, %v", key, c, level, n, e)
				}
			}
			hold(t, s, c, level, l)
		}
	}
}

func TestErrorsInTheirOrder(t *testing.T) {
	for _, x := range []struct {
		mode  int
		n     int64
		key   uint64
		d     int64
		fails api.Errno
	}{
		{api.Conservative, highest, 4, -1, api.ErrKey},
		{api.Conservative, lowest, 4, lowest, api.ErrKey},
		{api.Conservative, highest, 4, 1, api.ErrKey},
		{api.Conservative, 0, 4, 0, api.ErrKey},
		{api.Linear, highest, 4, 1, api.ErrKey},
		{api.Linear, lowest, 4, -1, api.ErrKey},
		{api.Median, highest, 4, highest, api.ErrKey},
		{api.Median, lowest, 4, lowest, api.ErrKey},
		{api.Conservative, lowest, 3, -1, api.ErrMode},
		{api.Conservative, lowest, 3, lowest, api.ErrMode},
		{api.Conservative, -1, 3, lowest, api.ErrMode},
		{api.Conservative, highest, 3, -1, api.ErrMode},
		{api.Conservative, 0, 3, -1, api.ErrMode},
		{api.Conservative, highest, 3, 1, api.ErrOverflow},
		{api.Conservative, highest, 3, 0, api.OK},
		{api.Conservative, lowest, 3, 0, api.OK},
		{api.Linear, highest, 3, 1, api.ErrOverflow},
		{api.Linear, lowest, 3, -1, api.ErrOverflow},
		{api.Linear, highest, 3, 0, api.OK},
		{api.Median, highest, 3, 1, api.ErrOverflow},
		{api.Median, lowest, 3, -1, api.ErrOverflow},
		{api.Median, lowest, 3, 0, api.OK},
	} {
		c := api.Config{Bits: 3, Rows: 2, Width: 2, Mode: x.mode, Seed: 7}
		l := sketches.Full(c, x.n)
		holdUpdate(t, sketches.Filled(c, 1, l...), x.key, x.d, x.fails, l)
	}
}

// after tells by whole numbers what a key's cells have behind an update by d, and what
// it answers.
func after(mode int, numbers []int64, d int64) ([]int64, api.Errno) {
	rises := mode == api.Conservative
	if rises && d < 0 {
		return numbers, api.ErrMode
	}
	all := slices.Clone(numbers)
	for row, n := range numbers {
		if rises {
			n = slices.Min(numbers)
		}
		sum := new(big.Int).Add(big.NewInt(n), big.NewInt(d))
		if !sum.IsInt64() {
			return numbers, api.ErrOverflow
		}
		if !rises || sum.Int64() > all[row] {
			all[row] = sum.Int64()
		}
	}
	return all, api.OK
}

// edges has the number of one cell, and what it is updated by: sums at the ends of what
// fits, and one beyond.
var edges = []struct{ n, d int64 }{
	{highest - 1, 1}, {highest, 1}, {highest - 1, 2}, {0, highest}, {1, highest}, {-1, highest}, {highest, highest},
	{lowest + 1, -1}, {lowest, -1}, {lowest + 1, -2}, {0, lowest}, {-1, lowest}, {1, lowest}, {lowest, lowest},
	{highest, 0}, {lowest, 0}, {lowest, highest}, {highest, lowest}, {1 << 62, 1 << 62}, {1<<62 - 1, 1 << 62},
}

// Each edge in each row alone: the others have room, or, in the mode Conservative, none,
// as the least one's sum alone counts there.
func TestEdgesInOneRow(t *testing.T) {
	count := map[int]map[api.Errno]int{}
	for i, c := range sketches.Configs() {
		level := i % (c.Bits + 1)
		key := configs.Count(c.Bits, level) - 1
		cols := shape.Columns(c, level, key)
		for row := range cols {
			for _, x := range edges {
				other := -x.d / 2
				if c.Mode == api.Conservative {
					other = highest
				}
				numbers := slices.Repeat([]int64{other}, c.Rows)
				numbers[row] = x.n
				behind, fails := after(c.Mode, numbers, x.d)
				// Cells of other columns may have any number.
				before := sketches.Full(c, highest, lowest, x.n)
				want := slices.Clone(before)
				for row, col := range cols {
					before[row*c.Width+col], want[row*c.Width+col] = numbers[row], behind[row]
				}
				holdUpdate(t, sketches.Filled(c, level, before...), key, x.d, fails, want)
				if count[c.Mode] == nil {
					count[c.Mode] = map[api.Errno]int{}
				}
				count[c.Mode][fails]++
			}
		}
	}
	for _, mode := range configs.Modes() {
		if count[mode][api.OK] < 100 || count[mode][api.ErrOverflow] < 100 {
			t.Errorf("too few of some answers in the mode %d: %v", mode, count[mode])
		}
	}
}

// Updates of strewn keys, one behind another, of which some are refused, held against
// Columns of shape, and Change of linear, or Raise of conserve.
func TestUpdateOfAll(t *testing.T) {
	count := map[api.Errno]int{}
	for i, c := range sketches.Configs() {
		for _, level := range []int{0, c.Bits / 2, c.Bits} {
			s, g := made(t, c, level), grid.New(c.Rows, c.Width)
			change, keys := linear.Change, configs.Within(configs.Count(c.Bits, level))
			if c.Mode == api.Conservative {
				change = conserve.Raise
			}
			for turn, d := range strewn.Signed(i, 60, uint(i%6)) {
				key := keys[turn%len(keys)]
				fails := change(g, shape.Columns(c, level, key), d)
				holdUpdate(t, s, key, d, fails, g.Cells())
				count[fails]++
				for _, key := range keys {
					holdTold(t, s, key)
				}
			}
		}
	}
	if len(count) != 3 || count[api.OK] < 200 || count[api.ErrMode] < 200 || count[api.ErrOverflow] < 200 {
		t.Errorf("too few of some answers, or others: %v", count)
	}
}

// holdTold holds what is told of the key against the numbers of its cells, in order.
func holdTold(t *testing.T, s *sketch.Sketch, key uint64) {
	t.Helper()
	c := s.Config()
	ordered := columns.Named(s.Cells(), shape.Columns(c, s.Level(), key), c.Width)
	slices.Sort(ordered)
	want := ordered[0]
	if c.Mode == api.Median {
		want = ordered[(len(ordered)-1)/2]
	}
	if n, e := s.Point(key); n != want || e != api.OK {
		t.Errorf("Point of %d in %v, whose cells have %v: %d, %v", key, c, ordered, n, e)
	}
}

// The least and the middle one of the numbers of one column.
func TestPointNamed(t *testing.T) {
	for _, x := range []struct {
		l             []int64
		least, middle int64
	}{
		{[]int64{7}, 7, 7},
		{[]int64{lowest}, lowest, lowest},
		{[]int64{8, 2}, 2, 2},
		{[]int64{2, 8}, 2, 2},
		{[]int64{-8, -2}, -8, -8},
		{[]int64{5, 1, 3}, 1, 3},
		{[]int64{9, 1, 7, 3}, 1, 3},
		{[]int64{9, 1, 7, 3, 5}, 1, 5},
		{[]int64{highest, lowest, 0}, lowest, 0},
		{[]int64{0, 0, -4, 0}, -4, 0},
		{[]int64{8, 7, 6, 5, 4, 3, 2, 1}, 1, 4},
		{[]int64{1, -2, 3, -4, 5, -6, 7, -8}, -8, -2},
	} {
		for mode, want := range map[int]int64{api.Linear: x.least, api.Conservative: x.least, api.Median: x.middle} {
			c := api.Config{Bits: 2, Rows: len(x.l), Width: 1, Mode: mode}
			s := sketches.Filled(c, 1, x.l...)
			holdPoint(t, s, 0, want)
			holdPoint(t, s, 1, want)
		}
	}
}

func TestPointOfAll(t *testing.T) {
	for i, c := range sketches.Configs() {
		for _, level := range configs.Levels(c.Bits) {
			l := strewn.Signed(i+level, c.Rows*c.Width, uint(level))
			s := sketches.Filled(c, level, l...)
			for _, key := range configs.Within(configs.Count(c.Bits, level)) {
				holdTold(t, s, key)
			}
			hold(t, s, c, level, l)
		}
	}
}

// Just as many numbers are loaded, and no others, each in its place.
func TestLoad(t *testing.T) {
	for i, c := range sketches.Configs() {
		level, count := i%(c.Bits+1), c.Rows*c.Width
		numbers := strewn.Signed(i, 2*count+c.Width+2, 0)
		s := made(t, c, level)
		want := sketches.Full(c, 0)
		for turn, l := range [][]int64{numbers[1:][:count], sketches.Full(c, highest, lowest), sketches.Full(c, 0), numbers[:count]} {
			for _, other := range []int{0, 1, count - 1, count + 1, count - c.Width, count + c.Width, 2 * count, len(numbers)} {
				if other != count && s.Load(numbers[:other]) {
					t.Errorf("%d numbers are loaded into %d cells", other, count)
				}
			}
			if s.Load(nil) || s.Load([]int64{}) {
				t.Errorf("no numbers are loaded into %d cells", count)
			}
			hold(t, s, c, level, want)
			if !s.Load(l) {
				t.Errorf("turn %d: %d numbers are not loaded into %d cells", turn, len(l), count)
			}
			hold(t, s, c, level, l)
			want = l
		}
	}
}

func TestLoadNamed(t *testing.T) {
	c := api.Config{Bits: 6, Rows: 2, Width: 3, Mode: api.Conservative, Seed: 5}
	s := sketches.Filled(c, 0, 1, -2, 3, -4, 5, lowest)
	for _, l := range [][]int64{nil, {}, {7}, {7, 7, 7}, {7, 7, 7, 7, 7}, {7, 7, 7, 7, 7, 7, 7}, make([]int64, 12)} {
		if s.Load(l) {
			t.Errorf("%v is loaded", l)
		}
	}
	hold(t, s, c, 0, []int64{1, -2, 3, -4, 5, lowest})
}

// What Load was handed stays, with what lies behind it, and may be written over.
func TestLoadKeepsNothing(t *testing.T) {
	c := api.Config{Bits: 6, Rows: 2, Width: 3, Mode: api.Linear, Seed: 5}
	whole := []int64{1, 2, 3, 4, 5, 6, 77, 78}
	s := sketches.Filled(c, 1, whole[:6]...)
	holdUpdate(t, s, 0, 0, api.OK, []int64{1, 2, 3, 4, 5, 6})
	if s.Load(whole[:7]) || !slices.Equal(whole, []int64{1, 2, 3, 4, 5, 6, 77, 78}) {
		t.Errorf("the numbers became %v", whole)
	}
	clear(whole)
	hold(t, s, c, 1, []int64{1, 2, 3, 4, 5, 6})
	l := []int64{9, 9, 9, 9, 9, 9}
	if !s.Load(l) || s.Merge(s) != api.OK || !slices.Equal(l, []int64{9, 9, 9, 9, 9, 9}) {
		t.Errorf("the numbers became %v", l)
	}
	hold(t, s, c, 1, sketches.Full(c, 18))
}

// What Cells told may be written over, and stays when the cells change.
func TestCellsAreOfTheirOwn(t *testing.T) {
	for _, mode := range configs.Modes() {
		c := api.Config{Bits: 6, Rows: 2, Width: 1, Mode: mode, Seed: 5}
		s := sketches.Filled(c, 0, 3, 4)
		first, second, third := s.Cells(), s.Cells(), s.Cells()
		clear(first)
		_ = append(third[:1], 77)
		hold(t, s, c, 0, []int64{3, 4})
		if s.Update(5, 10) != api.OK || s.Merge(s) != api.OK || !slices.Equal(second, []int64{3, 4}) {
			t.Errorf("what was told became %v", second)
		}
		if !s.Load([]int64{8, 9}) || !slices.Equal(second, []int64{3, 4}) || !slices.Equal(first, []int64{0, 0}) {
			t.Errorf("what was told became %v, and %v", second, first)
		}
	}
}

// A copy is the same at first, and each of both changes alone, by each call that changes.
func TestCopy(t *testing.T) {
	for i, c := range sketches.Configs() {
		level := i % (c.Bits + 1)
		before := strewn.Signed(i, c.Rows*c.Width, 2)
		other := sketches.Filled(c, level, sketches.Full(c, 1, 2, 3)...)
		for _, change := range []func(s *sketch.Sketch) bool{
			func(s *sketch.Sketch) bool { return s.Update(0, 1<<61) == api.OK },
			func(s *sketch.Sketch) bool { return s.Load(sketches.Full(c, 7, lowest)) },
			func(s *sketch.Sketch) bool { return s.Merge(other) == api.OK },
			func(s *sketch.Sketch) bool { return s.Merge(s) == api.OK },
			func(s *sketch.Sketch) bool { return s.Subtract(other) == api.OK || c.Mode == api.Conservative },
		} {
			s := sketches.Filled(c, level, before...)
			k := s.Copy()
			hold(t, k, c, level, before)
			if !change(k) {
				t.Errorf("a copy of %v does not change", c)
			}
			hold(t, s, c, level, before)
			then, changed := s.Copy(), k.Cells()
			if !change(s) {
				t.Errorf("what was copied of %v does not change", c)
			}
			hold(t, s, c, level, changed)
			hold(t, k, c, level, changed)
			hold(t, then, c, level, before)
		}
		hold(t, other, c, level, sketches.Full(c, 1, 2, 3))
	}
}

func TestMadeApart(t *testing.T) {
	for _, mode := range configs.Modes() {
		c := api.Config{Bits: 6, Rows: 2, Width: 1, Mode: mode, Seed: 5}
		s, o := made(t, c, 0), made(t, c, 0)
		holdUpdate(t, s, 1, 4, api.OK, []int64{4, 4})
		hold(t, o, c, 0, []int64{0, 0})
		holdUpdate(t, o, 2, 7, api.OK, []int64{7, 7})
		hold(t, s, c, 0, []int64{4, 4})
	}
}

// holdJoined does Merge and Subtract to sketches with these cells, and holds what they
// answer, and both sketches behind it, against what is wanted; in the mode Conservative
// nothing is taken away.
func holdJoined(t *testing.T, c api.Config, level int, a, b, plus, minus []int64, over, under api.Errno) {
	t.Helper()
	if c.Mode == api.Conservative {
		minus, under = a, api.ErrMode
	}
	for _, x := range []struct {
		name  string
		call  func(s, o *sketch.Sketch) api.Errno
		want  []int64
		fails api.Errno
	}{
		{"Merge", (*sketch.Sketch).Merge, plus, over},
		{"Subtract", (*sketch.Sketch).Subtract, minus, under},
	} {
		s, o := sketches.Filled(c, level, a...), sketches.Filled(c, level, b...)
		if e := x.call(s, o); e != x.fails {
			t.Errorf("%s of %v and %v in %v: %v, not %v", x.name, a, b, c, e, x.fails)
		}
		hold(t, s, c, level, x.want)
		hold(t, o, c, level, b)
	}
}

func TestJoinedNamed(t *testing.T) {
	for _, mode := range configs.Modes() {
		c := api.Config{Bits: 6, Rows: 2, Width: 2, Mode: mode, Seed: 5}
		a, b := []int64{1, 2, 3, 4}, []int64{10, -20, 30, -40}
		holdJoined(t, c, 0, a, b, []int64{11, -18, 33, -36}, []int64{-9, 22, -27, 44}, api.OK, api.OK)
		holdJoined(t, c, 6, b, a, []int64{11, -18, 33, -36}, []int64{9, -22, 27, -44}, api.OK, api.OK)
		a, b = []int64{highest, lowest, 0, -1}, []int64{0, 0, highest, lowest + 1}
		holdJoined(t, c, 3, a, b, []int64{highest, lowest, highest, lowest}, []int64{highest, lowest, -highest, highest - 1}, api.OK, api.OK)
	}
}

// One cell that does not fit is enough, wherever it is; one less, and it fits.
func TestJoinedAtTheEdges(t *testing.T) {
	for i, c := range sketches.Configs() {
		level, count := i%(c.Bits+1), c.Rows*c.Width
		// Of many cells each seventh one, and the last.
		for at := 0; at < count; at = max(at+1, min(at+1+count/7, count-1)) {
			a, b := sketches.Full(c, 5), sketches.Full(c, 1)
			plus, minus := sketches.Full(c, 6), sketches.Full(c, 4)
			a[at], plus[at], minus[at] = highest-1, highest, highest-2
			holdJoined(t, c, level, a, b, plus, minus, api.OK, api.OK)
			a[at], minus[at] = highest, highest-1
			holdJoined(t, c, level, a, b, a, minus, api.ErrOverflow, api.OK)
			a[at], plus[at], minus[at] = lowest+1, lowest+2, lowest
			holdJoined(t, c, level, a, b, plus, minus, api.OK, api.OK)
			a[at], plus[at] = lowest, lowest+1
			holdJoined(t, c, level, a, b, plus, a, api.OK, api.ErrOverflow)
		}
	}
}

func TestJoinedOfAll(t *testing.T) {
	for i, c := range sketches.Configs() {
		count := c.Rows * c.Width
		a, b := strewn.Signed(i, count, 1), strewn.Signed(i+50, count, 1)
		var plus, minus []int64
		for at := range a {
			plus, minus = append(plus, a[at]+b[at]), append(minus, a[at]-b[at])
		}
		holdJoined(t, c, c.Bits/2, a, b, plus, minus, api.OK, api.OK)
	}
}

// holdIncompatible holds both calls, by which no cell fits either, against
// ErrIncompatible, and the sketches against what they were.
func holdIncompatible(t *testing.T, s, o *sketch.Sketch) {
	t.Helper()
	c, level := s.Config(), s.Level()
	before := s.Cells()
	var others []int64
	if o != nil {
		others = o.Cells()
	}
	if e := s.Merge(o); e != api.ErrIncompatible {
		t.Errorf("Merge into %v at level %d: %v", c, level, e)
	}
	if e := s.Subtract(o); e != api.ErrIncompatible {
		t.Errorf("Subtract from %v at level %d: %v", c, level, e)
	}
	hold(t, s, c, level, before)
	if o != nil {
		hold(t, o, o.Config(), o.Level(), others)
	}
}

// None, another config in each of its fields, and another level: in the mode
// Conservative, too, and where sums would not fit.
func TestIncompatible(t *testing.T) {
	for _, c := range sketches.Configs() {
		for _, l := range [][]int64{sketches.Full(c, highest), sketches.Full(c, lowest), sketches.Full(c, 0), sketches.Full(c, 3, -3)} {
			s := sketches.Filled(c, 0, l...)
			holdIncompatible(t, s, nil)
			for _, other := range configs.Others(c) {
				o := sketches.Filled(other, 0, sketches.Full(other, 1, -1)...)
				holdIncompatible(t, s, o)
				holdIncompatible(t, o, s)
			}
			for level := 1; level <= c.Bits; level++ {
				o := sketches.Filled(c, level, sketches.Full(c, highest, lowest)...)
				holdIncompatible(t, s, o)
				holdIncompatible(t, o, s)
			}
		}
	}
}

// Nothing is taken away in the mode Conservative, also where it would not fit, or from
// itself; what is merged is as in the others.
func TestConservativeJoined(t *testing.T) {
	c := api.Config{Bits: 6, Rows: 2, Width: 2, Mode: api.Conservative, Seed: 5}
	for _, x := range []struct{ a, b []int64 }{
		{[]int64{0, 0, 0, 0}, []int64{0, 0, 0, 0}},
		{[]int64{4, 4, 4, 4}, []int64{1, 2, 3, 4}},
		{[]int64{4, 4, 4, lowest}, []int64{1, 2, 3, 4}},
		{[]int64{lowest, highest, 0, 0}, []int64{highest, lowest, lowest, 1}},
	} {
		s, o := sketches.Filled(c, 2, x.a...), sketches.Filled(c, 2, x.b...)
		if e := s.Subtract(o); e != api.ErrMode {
			t.Errorf("Subtract of %v from %v: %v", x.b, x.a, e)
		}
		if e := s.Subtract(s); e != api.ErrMode {
			t.Errorf("Subtract of %v from itself: %v", x.a, e)
		}
		hold(t, s, c, 2, x.a)
		hold(t, o, c, 2, x.b)
	}
	s := sketches.Filled(c, 2, 1, 2, 3, highest)
	if e := s.Merge(sketches.Filled(c, 2, 1, 1, 1, 1)); e != api.ErrOverflow {
		t.Errorf("Merge: %v", e)
	}
	hold(t, s, c, 2, []int64{1, 2, 3, highest})
}

func TestWithItself(t *testing.T) {
	for _, x := range []struct{ l, plus []int64 }{
		{[]int64{0, 5, -7, 1}, []int64{0, 10, -14, 2}},
		{[]int64{1<<62 - 1, -1 << 62, 3, -3}, []int64{highest - 1, lowest, 6, -6}},
		{[]int64{3, 4, 5, 1 << 62}, nil},
		{[]int64{-1<<62 - 1, 3, 4, 5}, nil},
		{[]int64{3, 4, highest, lowest}, nil},
	} {
		for _, mode := range configs.Modes() {
			c := api.Config{Bits: 6, Rows: 2, Width: 2, Mode: mode, Seed: 5}
			s, want, fails := sketches.Filled(c, 0, x.l...), x.plus, api.OK
			if want == nil {
				want, fails = x.l, api.ErrOverflow
			}
			if e := s.Merge(s); e != fails {
				t.Errorf("%v with itself: %v, not %v", x.l, e, fails)
			}
			hold(t, s, c, 0, want)
			if mode == api.Conservative {
				continue
			}
			if e := s.Subtract(s); e != api.OK {
				t.Errorf("%v without itself: %v", want, e)
			}
			hold(t, s, c, 0, sketches.Full(c, 0))
		}
	}
}

// Sketches that were put together change alone later on.
func TestJoinedKeepsNothing(t *testing.T) {
	for _, mode := range configs.Modes() {
		c := api.Config{Bits: 6, Rows: 2, Width: 1, Mode: mode, Seed: 5}
		s, o := made(t, c, 0), sketches.Filled(c, 0, 3, 3)
		if e := s.Merge(o); e != api.OK {
			t.Error(e)
		}
		holdUpdate(t, o, 0, 1, api.OK, []int64{4, 4})
		hold(t, s, c, 0, []int64{3, 3})
		holdUpdate(t, s, 0, 6, api.OK, []int64{9, 9})
		hold(t, o, c, 0, []int64{4, 4})
	}
}

// ofSums calls for each level of the small configs whose cells are sums, with how many
// keys it has.
func ofSums(call func(from int, c api.Config, level int, keys uint64)) {
	for i, c := range sketches.Small() {
		if c.Mode == api.Conservative {
			continue
		}
		for _, level := range configs.Levels(c.Bits) {
			call(i, c, level, configs.Count(c.Bits, level))
		}
	}
}

// The chapter's section "What follows": in the modes Linear and Median a cell is the sum
// of what all keys have whose column it is; in the mode Linear Point is what the key has,
// and the least sum of what others have in its columns.
func TestWhatFollows(t *testing.T) {
	ofSums(func(from int, c api.Config, level int, keys uint64) {
		all := sketches.Updates(from, keys)
		s, has := sketches.Fed(c, level, all), sketches.Sums(keys, all)
		want := sketches.Full(c, 0)
		for key, n := range has {
			for row, col := range shape.Columns(c, level, uint64(key)) {
				want[row*c.Width+col] += n
			}
		}
		hold(t, s, c, level, want)
		for key, n := range has {
			if c.Mode == api.Linear {
				holdPoint(t, s, uint64(key), n+leastOfOthers(c, level, has, uint64(key)))
			}
		}
	})
}

// leastOfOthers tells the least sum, of those of all rows, of what other keys have whose
// column is that of the key.
func leastOfOthers(c api.Config, level int, has []int64, key uint64) int64 {
	var all []int64
	cols := shape.Columns(c, level, key)
	for row := range cols {
		sum := int64(0)
		for other, n := range has {
			if uint64(other) != key && shape.Columns(c, level, uint64(other))[row] == cols[row] {
				sum += n
			}
		}
		all = append(all, sum)
	}
	return slices.Min(all)
}

// In the modes Linear and Median a merged sketch is the one that was fed all that both
// were, and one is taken away again.
func TestFedTogether(t *testing.T) {
	ofSums(func(from int, c api.Config, level int, keys uint64) {
		first, second := sketches.Updates(from, keys), sketches.Updates(from+20, keys)
		s, o := sketches.Fed(c, level, first), sketches.Fed(c, level, second)
		alone, both := s.Cells(), sketches.Fed(c, level, slices.Concat(second, first))
		if e := s.Merge(o); e != api.OK {
			t.Errorf("Merge: %v", e)
		}
		hold(t, s, c, level, both.Cells())
		if e := s.Subtract(o); e != api.OK {
			t.Errorf("Subtract: %v", e)
		}
		hold(t, s, c, level, alone)
	})
}

// Of what is not below 0, no key is told less than it has, and in the mode Conservative
// none is told more than in the mode Linear: behind updates, and behind a merge.
func TestBetween(t *testing.T) {
	less := 0
	for i, c := range sketches.Small() {
		if c.Mode != api.Conservative {
			continue
		}
		keys := configs.Count(c.Bits, 0)
		first, second := sketches.Rises(i, keys), sketches.Rises(i+1, keys)
		s, o := sketches.Fed(c, 0, first), sketches.Fed(c, 0, second)
		if e := s.Merge(o); e != api.OK {
			t.Errorf("Merge: %v", e)
		}
		all := slices.Concat(first, second)
		most := sketches.Fed(ofMode(c, api.Linear), 0, all)
		for key, n := range sketches.Sums(keys, all) {
			told, _ := s.Point(uint64(key))
			end, _ := most.Point(uint64(key))
			if told < n || told > end {
				t.Errorf("%d has %d, and is told %d, and in the mode Linear %d", key, n, told, end)
			}
			if told < end {
				less++
			}
		}
	}
	if less < 10 {
		t.Errorf("too few keys are told less than in the mode Linear: %d", less)
	}
}
