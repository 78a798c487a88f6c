package exact_test

import (
	"math"
	"math/big"
	"slices"
	"testing"

	"gauger/api"
	"gauger/arrays"
	"gauger/configs"
	"gauger/exact"
	"gauger/levels"
	"gauger/strewn"
)

const (
	lowest  = math.MinInt64
	highest = math.MaxInt64
)

// made tells the array of a level that is exact.
func made(t *testing.T, p levels.Place) *exact.Array {
	t.Helper()
	a, e := exact.New(p.Config, p.Level)
	if a == nil || e != api.OK {
		t.Fatalf("New of %v: %v, %v", p, a, e)
	}
	return a
}

// The chapter's example.
func TestExample(t *testing.T) {
	for _, mode := range configs.Modes() {
		p := levels.At(api.Config{Bits: 2, Rows: 3, Width: 4, Mode: mode, Seed: 5}, 1)
		a := made(t, p)
		levels.Hold(t, a, p, []int64{0, 0})
		levels.HoldUpdate(t, a, 1, 5, api.OK, []int64{0, 5})
	}
}

func TestNew(t *testing.T) {
	fine, other := arrays.Parted(configs.Right())
	for _, p := range fine {
		levels.Hold(t, made(t, p), p, arrays.Kind().Full(p, 0))
	}
	arrays.Kind().NoneMade(t, other)
	arrays.Kind().NoneMade(t, levels.Nowhere())
	if len(fine) < 1000 || len(other) < 1000 {
		t.Errorf("too few levels that are exact, %d, or that are not, %d", len(fine), len(other))
	}
}

// The first level that is exact, the last one that is not, and those around them: for each
// number of columns, and each of bits.
func TestNewAtTheEdges(t *testing.T) {
	for width := 1; width <= api.MaxWidth; width++ {
		for bits := 1; bits <= api.MaxBits; bits++ {
			c := api.Config{Bits: bits, Rows: 1 + bits%8, Width: width, Mode: 1 + width%3, Seed: uint64(width)}
			first := configs.Exact(c)
			var none []levels.Place
			for level := first - 3; level < first; level++ {
				none = append(none, levels.At(c, level))
			}
			arrays.Kind().NoneMade(t, append(none, levels.At(c, -1), levels.At(c, bits+1)))
			count := 1
			for level := bits; level >= first; level-- {
				levels.Hold(t, made(t, levels.At(c, level)), levels.At(c, level), make([]int64, count))
				count *= 2
			}
		}
	}
}

func TestNewNamed(t *testing.T) {
	const linear, median = api.Linear, api.Median
	for _, x := range []struct {
		name  string
		c     api.Config
		level int
		keys  int
	}{
		{"the lowest level", api.Config{Bits: 3, Rows: 2, Width: 8, Mode: linear}, 0, 8},
		{"the lowest level, a column too few", api.Config{Bits: 3, Rows: 2, Width: 7, Mode: linear}, 0, 0},
		{"above it, columns left", api.Config{Bits: 3, Rows: 2, Width: 7, Mode: linear}, 1, 4},
		{"above it, many columns left", api.Config{Bits: 3, Rows: 2, Width: 128, Mode: linear}, 1, 4},
		{"the highest level", api.Config{Bits: 3, Rows: 2, Width: 1, Mode: median}, 3, 1},
		{"below it", api.Config{Bits: 3, Rows: 2, Width: 1, Mode: median}, 2, 0},
		{"one beyond", api.Config{Bits: 3, Rows: 2, Width: 8, Mode: median}, 4, 0},
		{"one below", api.Config{Bits: 3, Rows: 2, Width: 8, Mode: median}, -1, 0},
		{"as many as may be", api.Config{Bits: 7, Rows: 8, Width: 128, Mode: api.Conservative}, 0, 128},
		{"as many as may be, far up", api.Config{Bits: 59, Rows: 8, Width: 128, Mode: api.Conservative}, 52, 128},
		{"twice as many", api.Config{Bits: 59, Rows: 8, Width: 128, Mode: api.Conservative}, 51, 0},
		{"as many keys as there may be", api.Config{Bits: 59, Rows: 8, Width: 128, Mode: linear}, 0, 0},
		{"the highest level of all", api.Config{Bits: 59, Rows: 8, Width: 128, Mode: linear}, 59, 1},
		{"one beyond all", api.Config{Bits: 59, Rows: 8, Width: 128, Mode: linear}, 60, 0},
		{"the empty config", api.Config{}, 0, 0},
		{"no bits", api.Config{Rows: 2, Width: 8, Mode: linear}, 0, 0},
		{"a bit too much", api.Config{Bits: 60, Rows: 2, Width: 8, Mode: linear}, 60, 0},
		{"no rows", api.Config{Bits: 3, Width: 8, Mode: linear}, 3, 0},
		{"a row too much", api.Config{Bits: 3, Rows: 9, Width: 8, Mode: linear}, 3, 0},
		{"no columns", api.Config{Bits: 3, Rows: 2, Mode: linear}, 3, 0},
		{"a column too much", api.Config{Bits: 3, Rows: 2, Width: 129, Mode: linear}, 3, 0},
		{"no mode", api.Config{Bits: 3, Rows: 2, Width: 8}, 3, 0},
		{"a mode too much", api.Config{Bits: 3, Rows: 2, Width: 8, Mode: 4}, 3, 0},
	} {
		t.Run(x.name, func(t *testing.T) {
			p := levels.At(x.c, x.level)
			if x.keys == 0 {
				arrays.Kind().NoneMade(t, []levels.Place{p})
				return
			}
			levels.Hold(t, made(t, p), p, make([]int64, x.keys))
		})
	}
}

// What is updated, refused, loaded, told, copied, and put together, as each kind of level
// has to do it.
func TestTrials(t *testing.T) {
	for _, x := range arrays.Kind().Trials() {
		t.Run(x.Name, func(t *testing.T) { x.Try(t, arrays.Places()) })
	}
}

// Of four keys with 7, -7, and the two ends of what fits.
func TestUpdateNamed(t *testing.T) {
	const linear, conservative, median = api.Linear, api.Conservative, api.Median
	for _, x := range []struct {
		mode  int
		key   uint64
		d     int64
		fails api.Errno
		n     int64
	}{
		{linear, 0, 5, api.OK, 12}, {conservative, 0, 5, api.OK, 12}, {median, 0, 5, api.OK, 12},
		{linear, 0, 0, api.OK, 7}, {conservative, 0, 0, api.OK, 7}, {median, 0, 0, api.OK, 7},
		{linear, 0, -9, api.OK, -2}, {conservative, 0, -9, api.ErrMode, 7}, {median, 0, -9, api.OK, -2},
		{linear, 0, highest - 7, api.OK, highest}, {conservative, 0, highest - 7, api.OK, highest}, {median, 0, highest - 7, api.OK, highest},
		{linear, 0, highest - 6, api.ErrOverflow, 7}, {conservative, 0, highest - 6, api.ErrOverflow, 7}, {median, 0, highest - 6, api.ErrOverflow, 7},
		{linear, 0, lowest, api.OK, lowest + 7}, {conservative, 0, lowest, api.ErrMode, 7}, {median, 0, lowest, api.OK, lowest + 7},
		{linear, 1, 5, api.OK, -2}, {conservative, 1, 5, api.OK, -2}, {median, 1, 5, api.OK, -2},
		{linear, 1, highest, api.OK, highest - 7}, {conservative, 1, highest, api.OK, highest - 7}, {median, 1, highest, api.OK, highest - 7},
		{linear, 1, lowest + 7, api.OK, lowest}, {conservative, 1, lowest + 7, api.ErrMode, -7}, {median, 1, lowest + 7, api.OK, lowest},
		{linear, 1, lowest + 6, api.ErrOverflow, -7}, {conservative, 1, lowest + 6, api.ErrMode, -7}, {median, 1, lowest + 6, api.ErrOverflow, -7},
		{linear, 2, 1, api.ErrOverflow, highest}, {conservative, 2, 1, api.ErrOverflow, highest}, {median, 2, 1, api.ErrOverflow, highest},
		{linear, 2, lowest, api.OK, -1}, {conservative, 2, -1, api.ErrMode, highest}, {median, 2, lowest, api.OK, -1},
		{linear, 3, -1, api.ErrOverflow, lowest}, {conservative, 3, -1, api.ErrMode, lowest}, {median, 3, -1, api.ErrOverflow, lowest},
		{linear, 3, highest, api.OK, -1}, {conservative, 3, highest, api.OK, -1}, {median, 3, highest, api.OK, -1},
		{linear, 4, 1, api.ErrKey, 0}, {conservative, 4, -1, api.ErrKey, 0}, {median, 4, -1, api.ErrKey, 0},
		{linear, 1 << 32, 1, api.ErrKey, 0}, {conservative, 1 << 63, -1, api.ErrKey, 0}, {median, math.MaxUint64, -1, api.ErrKey, 0},
	} {
		p := levels.At(api.Config{Bits: 5, Rows: 3, Width: 6, Mode: x.mode, Seed: 9}, 3)
		want := []int64{7, -7, highest, lowest}
		a := arrays.Kind().Filled(p, want...)
		if x.fails == api.OK {
			want[x.key] = x.n
		}
		levels.HoldUpdate(t, a, x.key, x.d, x.fails, want)
		fails := api.OK
		if x.key >= 4 {
			fails = api.ErrKey
		}
		levels.HoldPoint(t, a, x.key, x.n, fails)
	}
}

// Each key of each level has its own number, in order, and no other has it.
func TestEachKeyAlone(t *testing.T) {
	for _, p := range arrays.Places() {
		a, want := made(t, p), arrays.Kind().Full(p, 0)
		for key := range want {
			want[key] = int64(key + 1)
			levels.HoldUpdate(t, a, uint64(key), want[key], api.OK, want)
			for other, n := range want {
				levels.HoldPoint(t, a, uint64(other), n, api.OK)
			}
		}
		levels.HoldPoint(t, a, uint64(len(want)), 0, api.ErrKey)
	}
}

// after tells by whole numbers what a key has behind an update by d, and what it answers.
func after(mode int, n, d int64) (int64, api.Errno) {
	if mode == api.Conservative && d < 0 {
		return n, api.ErrMode
	}
	sum := new(big.Int).Add(big.NewInt(n), big.NewInt(d))
	if !sum.IsInt64() {
		return n, api.ErrOverflow
	}
	return sum.Int64(), api.OK
}

// Each edge at the first key, the last one, and some between; all others may have any
// numbers.
func TestEdgesAtOneKey(t *testing.T) {
	count := map[int]map[api.Errno]int{}
	for _, mode := range configs.Modes() {
		count[mode] = map[api.Errno]int{}
	}
	for _, p := range arrays.Places() {
		mode := p.Config.Mode
		for _, key := range configs.Within(configs.Count(p.Config.Bits, p.Level)) {
			for _, x := range levels.Edges() {
				before := arrays.Kind().Full(p, highest, lowest, -x.N)
				before[key] = x.N
				a, want := arrays.Kind().Filled(p, before...), slices.Clone(before)
				n, fails := after(mode, x.N, x.D)
				want[key] = n
				levels.HoldUpdate(t, a, key, x.D, fails, want)
				levels.HoldPoint(t, a, key, n, api.OK)
				count[mode][fails]++
			}
		}
	}
	for mode, all := range count {
		if all[api.OK] < 100 || all[api.ErrOverflow] < 100 || (all[api.ErrMode] > 100) != (mode == api.Conservative) {
			t.Errorf("too few of some answers in the mode %d: %v", mode, all)
		}
	}
}

// Updates of strewn keys, one behind another, of which some are refused.
func TestUpdateOfAll(t *testing.T) {
	count := map[api.Errno]int{}
	for i, p := range arrays.Places() {
		a, want := made(t, p), arrays.Kind().Full(p, 0)
		keys := strewn.Numbers(60)
		for turn, d := range strewn.Signed(i, 60, uint(i%6)) {
			// Of twice as many keys as there are.
			key, fails := keys[turn]%uint64(2*len(want)), api.ErrKey
			if key < uint64(len(want)) {
				want[key], fails = after(p.Config.Mode, want[key], d)
			}
			levels.HoldUpdate(t, a, key, d, fails, want)
			count[fails]++
		}
	}
	if len(count) != 4 || count[api.OK] < 200 || count[api.ErrKey] < 200 || count[api.ErrMode] < 200 || count[api.ErrOverflow] < 200 {
		t.Errorf("too few of some answers, or others: %v", count)
	}
}

func TestPointOfAll(t *testing.T) {
	for i, p := range arrays.Places() {
		cells := arrays.Kind().Strewn(p, i, uint(i%20))
		a := arrays.Kind().Filled(p, cells...)
		for key, n := range cells {
			levels.HoldPoint(t, a, uint64(key), n, api.OK)
		}
	}
}

func TestLoadNamed(t *testing.T) {
	for _, mode := range configs.Modes() {
		p := levels.At(api.Config{Bits: 5, Rows: 3, Width: 6, Mode: mode, Seed: 9}, 3)
		a := arrays.Kind().Filled(p, 1, -2, highest, lowest)
		// As many as there are columns, as in a grid of all rows, and as all keys.
		for _, count := range []int{0, 1, 3, 5, 6, 8, 12, 18, 32} {
			if a.Load(make([]int64, count)) {
				t.Errorf("%d numbers are loaded", count)
			}
		}
		if a.Load(nil) {
			t.Error("nil is loaded")
		}
		levels.Hold(t, a, p, []int64{1, -2, highest, lowest})
		if !a.Load([]int64{-9, 8, 0, 6}) {
			t.Error("four numbers are not loaded")
		}
		levels.Hold(t, a, p, []int64{-9, 8, 0, 6})
		levels.HoldPoint(t, a, 0, -9, api.OK)
		levels.HoldUpdate(t, a, 3, 1, api.OK, []int64{-9, 8, 0, 7})
	}
}

func TestJoinedNamed(t *testing.T) {
	for _, mode := range configs.Modes() {
		p := levels.At(api.Config{Bits: 5, Rows: 3, Width: 6, Mode: mode, Seed: 9}, 3)
		a, b := []int64{1, 2, 3, 4}, []int64{10, -20, 30, -40}
		arrays.Kind().HoldJoined(t, p, a, b, []int64{11, -18, 33, -36}, []int64{-9, 22, -27, 44})
		arrays.Kind().HoldJoined(t, p, b, a, []int64{11, -18, 33, -36}, []int64{9, -22, 27, -44})
		a, b = []int64{highest, lowest, 0, -1}, []int64{0, 0, highest, lowest + 1}
		arrays.Kind().HoldJoined(t, p, a, b, []int64{highest, lowest, highest, lowest}, []int64{highest, lowest, -highest, highest - 1})
		// One sum, or one difference, just does not fit, at the first key or the last.
		a, b = []int64{highest, 1, 2, 3}, []int64{1, 1, 1, 1}
		arrays.Kind().HoldJoined(t, p, a, b, nil, []int64{highest - 1, 0, 1, 2})
		a = []int64{1, 2, 3, lowest}
		arrays.Kind().HoldJoined(t, p, a, b, []int64{2, 3, 4, lowest + 1}, nil)
		a, b = []int64{0, 0, 0, -1}, []int64{1, 1, 1, lowest}
		arrays.Kind().HoldJoined(t, p, a, b, nil, []int64{-1, -1, -1, highest})
		a, b = []int64{0, 5, 5, 5}, []int64{lowest, 1, 1, 1}
		arrays.Kind().HoldJoined(t, p, a, b, []int64{lowest, 6, 6, 6}, nil)
	}
}

// Numbers of other levels, seeds, rows, columns and bits are never put together, be there
// as many or not.
func TestIncompatibleNamed(t *testing.T) {
	for _, mode := range configs.Modes() {
		c := api.Config{Bits: 5, Rows: 3, Width: 6, Mode: mode, Seed: 9}
		other := mode%3 + 1
		for _, x := range []struct {
			name string
			p    levels.Place
			fits bool
		}{
			{"the same", levels.At(c, 3), true},
			{"another level", levels.At(c, 4), false},
			{"other bits", levels.At(api.Config{Bits: 4, Rows: 3, Width: 6, Mode: mode, Seed: 9}, 3), false},
			{"other bits and another level", levels.At(api.Config{Bits: 6, Rows: 3, Width: 6, Mode: mode, Seed: 9}, 4), false},
			{"other rows", levels.At(api.Config{Bits: 5, Rows: 2, Width: 6, Mode: mode, Seed: 9}, 3), false},
			{"other columns", levels.At(api.Config{Bits: 5, Rows: 3, Width: 7, Mode: mode, Seed: 9}, 3), false},
			{"another mode", levels.At(api.Config{Bits: 5, Rows: 3, Width: 6, Mode: other, Seed: 9}, 3), false},
			{"another seed", levels.At(api.Config{Bits: 5, Rows: 3, Width: 6, Mode: mode, Seed: 8}, 3), false},
		} {
			a, b := arrays.Kind().Filled(levels.At(c, 3), 1, 2, 3, 4), arrays.Kind().Filled(x.p, arrays.Kind().Full(x.p, 5)...)
			fails, want := api.ErrIncompatible, []int64{1, 2, 3, 4}
			if x.fits {
				fails, want = api.OK, []int64{6, 7, 8, 9}
			}
			if e := a.Merge(b); e != fails {
				t.Errorf("%s: Merge: %v, not %v", x.name, e, fails)
			}
			levels.Hold(t, a, levels.At(c, 3), want)
			if x.fits && mode == api.Conservative {
				fails = api.ErrMode
			} else if x.fits {
				want = []int64{1, 2, 3, 4}
			}
			if e := a.Subtract(b); e != fails {
				t.Errorf("%s: Subtract: %v, not %v", x.name, e, fails)
			}
			levels.Hold(t, a, levels.At(c, 3), want)
			levels.Hold(t, b, x.p, arrays.Kind().Full(x.p, 5))
		}
	}
}

// The chapter's section "What follows": each key has just what was added to it.
func TestWhatFollows(t *testing.T) {
	for i, p := range arrays.Places() {
		all := levels.Taken(i, p)
		a := arrays.Kind().Fed(p, all)
		want := levels.Sums(configs.Count(p.Config.Bits, p.Level), all)
		levels.Hold(t, a, p, want)
		for key, n := range want {
			levels.HoldPoint(t, a, uint64(key), n, api.OK)
		}
	}
}

// A merged array is the one that was fed all that both were, and one is taken away again.
func TestFedTogether(t *testing.T) {
	for i, p := range arrays.Places() {
		first, second := levels.Taken(i, p), levels.Taken(i+20, p)
		a, b := arrays.Kind().Fed(p, first), arrays.Kind().Fed(p, second)
		alone, both := a.Cells(), arrays.Kind().Fed(p, slices.Concat(second, first))
		if e := a.Merge(b); e != api.OK {
			t.Errorf("Merge in %v: %v", p, e)
		}
		levels.Hold(t, a, p, both.Cells())
		if p.Config.Mode == api.Conservative {
			continue
		}
		if e := a.Subtract(b); e != api.OK {
			t.Errorf("Subtract in %v: %v", p, e)
		}
		levels.Hold(t, a, p, alone)
	}
}
