package shape_test

import (
	"math"
	"math/big"
	"slices"
	"testing"

	"gauger/api"
	"gauger/configs"
	"gauger/hash"
	"gauger/seeds"
	"gauger/shape"
	"gauger/strewn"
)

const full = 1<<64 - 1

func TestRightNamed(t *testing.T) {
	for _, x := range []struct {
		name string
		c    api.Config
		want bool
	}{
		{"the least one", api.Config{Bits: 1, Rows: 1, Width: 1, Mode: api.Linear}, true},
		{"the greatest one", api.Config{Bits: 59, Rows: 8, Width: 128, Mode: api.Median, Seed: full}, true},
		{"one between", configs.Base(), true},
		{"Conservative", api.Config{Bits: 59, Rows: 1, Width: 128, Mode: api.Conservative, Seed: 1}, true},
		{"the empty one", api.Config{}, false},
		{"a seed alone", api.Config{Seed: full}, false},
		{"no bits", api.Config{Rows: 1, Width: 1, Mode: 1}, false},
		{"no rows", api.Config{Bits: 1, Width: 1, Mode: 1}, false},
		{"no columns", api.Config{Bits: 1, Rows: 1, Mode: 1}, false},
		{"no mode", api.Config{Bits: 1, Rows: 1, Width: 1}, false},
		{"a bit too much", api.Config{Bits: 60, Rows: 8, Width: 128, Mode: 3}, false},
		{"a row too much", api.Config{Bits: 59, Rows: 9, Width: 128, Mode: 3}, false},
		{"a column too much", api.Config{Bits: 59, Rows: 8, Width: 129, Mode: 3}, false},
		{"a mode too much", api.Config{Bits: 59, Rows: 8, Width: 128, Mode: 4}, false},
		{"bits and rows turned round", api.Config{Bits: 8, Rows: 59, Width: 128, Mode: 3}, false},
		{"rows and columns turned round", api.Config{Bits: 59, Rows: 128, Width: 8, Mode: 3}, false},
		{"bits and columns turned round", api.Config{Bits: 128, Rows: 8, Width: 59, Mode: 3}, false},
		{"all below 0", api.Config{Bits: -1, Rows: -1, Width: -1, Mode: -1}, false},
		{"two below 0", api.Config{Bits: -1, Rows: -1, Width: 1, Mode: 1}, false},
	} {
		if got := shape.Right(x.c); got != x.want {
			t.Errorf("%s: %v is right: %t", x.name, x.c, got)
		}
	}
}

// Each number of each field, along with each one of all others, and any seed.
func TestRightOfAll(t *testing.T) {
	fields := configs.Fields()
	var try func(c api.Config, i int, want bool)
	try = func(c api.Config, i int, want bool) {
		if i == len(fields) {
			if got := shape.Right(c); got != want {
				t.Errorf("%v is right: %t", c, got)
			}
			return
		}
		for _, n := range fields[i].Good {
			fields[i].Put(&c, n)
			try(c, i+1, want)
		}
		for _, n := range fields[i].Wrong {
			fields[i].Put(&c, n)
			try(c, i+1, false)
		}
	}
	for _, seed := range []uint64{0, 99, full} {
		try(api.Config{Seed: seed}, 0, true)
	}
	for _, seed := range slices.Concat(configs.Seeds(), strewn.Numbers(50)) {
		c := configs.Base()
		c.Seed = seed
		if !shape.Right(c) {
			t.Errorf("%v is not right", c)
		}
	}
	for _, f := range fields {
		for _, n := range configs.Nowhere() {
			c := configs.Base()
			f.Put(&c, n)
			if shape.Right(c) {
				t.Errorf("%v is right, with %s of %d", c, f.Name, n)
			}
		}
	}
}

func TestKeysAndExactNamed(t *testing.T) {
	for _, x := range []struct {
		bits, width, level int
		keys               uint64
		exact              bool
	}{
		{59, 128, 0, 1 << 59, false},
		{59, 128, 1, 1 << 58, false},
		{59, 128, 27, 1 << 32, false},
		{59, 128, 28, 1 << 31, false},
		// Twice as many keys as columns, just as many, and half as many.
		{59, 128, 51, 256, false},
		{59, 128, 52, 128, true},
		{59, 128, 53, 64, true},
		{59, 128, 58, 2, true},
		{59, 128, 59, 1, true},
		{59, 128, 60, 0, false},
		{59, 128, -1, 0, false},
		// One column less than keys, and one more.
		{59, 127, 52, 128, false},
		{59, 127, 53, 64, true},
		{10, 65, 4, 64, true},
		{10, 64, 4, 64, true},
		{10, 63, 4, 64, false},
		{10, 64, 3, 128, false},
		// One column has room for the highest level alone.
		{10, 1, 10, 1, true},
		{10, 1, 9, 2, false},
		{10, 2, 9, 2, true},
		{10, 3, 9, 2, true},
		{10, 3, 8, 4, false},
		{10, 1, 11, 0, false},
		// All levels of few bits are exact.
		{1, 1, 0, 2, false},
		{1, 1, 1, 1, true},
		{1, 2, 0, 2, true},
		{1, 128, 0, 2, true},
		{1, 128, 2, 0, false},
		{7, 128, 0, 128, true},
		{7, 127, 0, 128, false},
		{8, 128, 0, 256, false},
		{8, 128, -1, 0, false},
	} {
		c := api.Config{Bits: x.bits, Rows: 2, Width: x.width, Mode: api.Median, Seed: 5}
		if got := shape.Keys(c, x.level); got != x.keys {
			t.Errorf("Keys of %v at level %d: %d, not %d", c, x.level, got, x.keys)
		}
		if got := shape.Exact(c, x.level); got != x.exact {
			t.Errorf("Exact of %v at level %d: %t, not %t", c, x.level, got, x.exact)
		}
	}
}

func TestKeysAndExactOfAllLevels(t *testing.T) {
	for bits := 1; bits <= 59; bits++ {
		for width := 1; width <= 128; width++ {
			c := api.Config{Bits: bits, Rows: 1 + bits%8, Width: width, Mode: 1 + width%3, Seed: uint64(bits)}
			for _, level := range configs.Levels(bits) {
				count := configs.Count(bits, level)
				if got := shape.Keys(c, level); got != count {
					t.Errorf("Keys of %v at level %d: %d, not %d", c, level, got, count)
				}
				if got, want := shape.Exact(c, level), count <= uint64(width); got != want {
					t.Errorf("Exact of %v at level %d: %t, not %t", c, level, got, want)
				}
			}
			for _, level := range configs.Beyond(bits) {
				if n, exact := shape.Keys(c, level), shape.Exact(c, level); n != 0 || exact {
					t.Errorf("%v has %d keys at level %d, and it is exact: %t", c, n, level, exact)
				}
			}
		}
	}
}

// What a level has hangs on the bits alone, and on the columns whether it is exact.
func TestKeysAndExactHangOnNothingElse(t *testing.T) {
	for rows := 1; rows <= 8; rows++ {
		for _, mode := range configs.Modes() {
			for _, seed := range configs.Seeds() {
				c := api.Config{Bits: 10, Rows: rows, Width: 64, Mode: mode, Seed: seed}
				if shape.Keys(c, 3) != 128 || shape.Exact(c, 3) || shape.Keys(c, 4) != 64 || !shape.Exact(c, 4) {
					t.Errorf("%v has %d, %t and %d, %t", c, shape.Keys(c, 3), shape.Exact(c, 3), shape.Keys(c, 4), shape.Exact(c, 4))
				}
			}
		}
	}
}

// A config that is not right has no levels, and no keys.
func TestWrongConfigs(t *testing.T) {
	for _, c := range configs.Wrong() {
		for _, level := range []int{0, 1, 5, 9, 10, 11, 59, 60, -1, c.Bits, c.Bits - 1, math.MaxInt, math.MinInt} {
			if n, exact := shape.Keys(c, level), shape.Exact(c, level); n != 0 || exact {
				t.Errorf("%v has %d keys at level %d, and it is exact: %t", c, n, level, exact)
			}
			for _, key := range []uint64{0, 1, 5, 1023, 1024, full} {
				if got := shape.Columns(c, level, key); len(got) != 0 {
					t.Errorf("Columns of %v at level %d of %d: %v", c, level, key, got)
				}
				if k, ok := shape.Above(c, level, key); k != 0 || ok {
					t.Errorf("Above of %v at level %d of %d: %d, %t", c, level, key, k, ok)
				}
			}
		}
	}
}

// The columns that are wanted here were reckoned apart from this program.
func TestColumnsNamed(t *testing.T) {
	for _, x := range configs.Known() {
		if got := shape.Columns(x.Config, x.Level, x.Key); !slices.Equal(got, x.Cols) {
			t.Errorf("Columns of %v at level %d of %d: %v, not %v", x.Config, x.Level, x.Key, got, x.Cols)
		}
	}
}

// columnsOf tells the columns as the chapter says them, of a key that is there.
func columnsOf(c api.Config, level int, key uint64) []int {
	var all []int
	for row := range c.Rows {
		a, b := seeds.Pair(c.Seed, level, row)
		all = append(all, hash.Bucket(a, b, key, c.Width))
	}
	return all
}

func TestColumnsOfAllLevels(t *testing.T) {
	for _, c := range configs.Right() {
		for _, level := range configs.Levels(c.Bits) {
			for _, key := range configs.Within(configs.Count(c.Bits, level)) {
				got, want := shape.Columns(c, level, key), columnsOf(c, level, key)
				if !slices.Equal(got, want) {
					t.Errorf("Columns of %v at level %d of %d: %v, not %v", c, level, key, got, want)
				}
				if len(got) != c.Rows || slices.Min(got) < 0 || slices.Max(got) >= c.Width {
					t.Errorf("%v are no columns of %v", got, c)
				}
			}
		}
	}
}

// All keys of small levels, and the first ones behind.
func TestColumnsOfAllKeys(t *testing.T) {
	for _, width := range []int{1, 2, 5, 16, 64, 128} {
		c := api.Config{Bits: 7, Rows: 8, Width: width, Mode: api.Linear, Seed: 3}
		for _, level := range configs.Levels(c.Bits) {
			count := configs.Count(c.Bits, level)
			for key := range count {
				if got, want := shape.Columns(c, level, key), columnsOf(c, level, key); !slices.Equal(got, want) {
					t.Errorf("Columns of %v at level %d of %d: %v, not %v", c, level, key, got, want)
				}
			}
			for key := count; key < 2*count+3; key++ {
				if got := shape.Columns(c, level, key); len(got) != 0 {
					t.Errorf("Columns of %v at level %d of %d: %v", c, level, key, got)
				}
			}
		}
	}
}

func TestNoSuchKeyOrLevel(t *testing.T) {
	for _, c := range configs.Right() {
		for _, level := range configs.Levels(c.Bits) {
			for _, key := range configs.Outside(configs.Count(c.Bits, level)) {
				if got := shape.Columns(c, level, key); len(got) != 0 {
					t.Errorf("Columns of %v at level %d of %d: %v", c, level, key, got)
				}
			}
			for _, key := range configs.Outside(configs.Count(c.Bits, 0)) {
				if k, ok := shape.Above(c, level, key); k != 0 || ok {
					t.Errorf("Above of %v at level %d of %d: %d, %t", c, level, key, k, ok)
				}
			}
		}
		for _, level := range configs.Beyond(c.Bits) {
			for _, key := range []uint64{0, 1, full} {
				if got := shape.Columns(c, level, key); len(got) != 0 {
					t.Errorf("Columns of %v at level %d of %d: %v", c, level, key, got)
				}
				if k, ok := shape.Above(c, level, key); k != 0 || ok {
					t.Errorf("Above of %v at level %d of %d: %d, %t", c, level, key, k, ok)
				}
			}
		}
	}
}

// No level of these seeds has the columns of another one; fewer rows have those of
// the first ones.
func TestColumnsAreApart(t *testing.T) {
	seen := map[[8]int]bool{}
	for _, seed := range configs.Seeds() {
		c := api.Config{Bits: 59, Rows: 8, Width: 128, Mode: api.Linear, Seed: seed}
		for _, level := range configs.Levels(c.Bits) {
			row := [8]int(shape.Columns(c, level, 0))
			if seen[row] {
				t.Errorf("level %d of the seed %d has the columns %v, too", level, seed, row)
			}
			seen[row] = true
			few := c
			few.Rows = 3
			if got := shape.Columns(few, level, 0); !slices.Equal(got, row[:3]) {
				t.Errorf("level %d of %v has the columns %v, not %v", level, few, got, row[:3])
			}
		}
	}
}

func TestColumnsAreOfTheirOwn(t *testing.T) {
	c := configs.Base()
	first, second := shape.Columns(c, 4, 63), shape.Columns(c, 4, 63)
	clear(first)
	_ = append(first[:1], 77)
	if want := columnsOf(c, 4, 63); !slices.Equal(second, want) || !slices.Equal(shape.Columns(c, 4, 63), want) {
		t.Errorf("what Columns told became %v, and is %v, not %v", second, shape.Columns(c, 4, 63), want)
	}
}

func TestAboveNamed(t *testing.T) {
	for _, x := range []struct {
		bits, level int
		key, want   uint64
		ok          bool
	}{
		{3, 2, 6, 1, true},
		{3, 0, 6, 6, true},
		{3, 1, 6, 3, true},
		{3, 3, 6, 0, true},
		{3, 4, 6, 0, false},
		{3, -1, 6, 0, false},
		{3, 0, 7, 7, true},
		{3, 0, 8, 0, false},
		{3, 2, 8, 0, false},
		{3, 3, 8, 0, false},
		{3, 2, 3, 0, true},
		{3, 2, 4, 1, true},
		{1, 0, 1, 1, true},
		{1, 1, 1, 0, true},
		{1, 1, 2, 0, false},
		{59, 0, 1<<59 - 1, 1<<59 - 1, true},
		{59, 1, 1<<59 - 1, 1<<58 - 1, true},
		{59, 27, 1<<59 - 1, 1<<32 - 1, true},
		{59, 58, 1<<59 - 1, 1, true},
		{59, 58, 1<<58 - 1, 0, true},
		{59, 59, 1<<59 - 1, 0, true},
		{59, 60, 1<<59 - 1, 0, false},
		{59, 0, 1 << 59, 0, false},
		{59, 58, full, 0, false},
		{59, 64, 5, 0, false},
		{59, 5, 0, 0, true},
	} {
		c := api.Config{Bits: x.bits, Rows: 1, Width: 2, Mode: api.Linear}
		if k, ok := shape.Above(c, x.level, x.key); k != x.want || ok != x.ok {
			t.Errorf("Above of %d bits at level %d of %d: %d, %t, not %d, %t", x.bits, x.level, x.key, k, ok, x.want, x.ok)
		}
	}
}

// The key of each level is told by another way than the package does: what is left
// of a whole number without its lowest bits is the whole part of it, parted by 2
// to the power of the level.
func TestAboveOfAllLevels(t *testing.T) {
	for _, c := range configs.Right() {
		for _, key := range configs.Within(configs.Count(c.Bits, 0)) {
			for _, level := range configs.Levels(c.Bits) {
				parts := new(big.Int).Exp(big.NewInt(2), big.NewInt(int64(level)), nil)
				want := new(big.Int).Div(new(big.Int).SetUint64(key), parts).Uint64()
				if k, ok := shape.Above(c, level, key); k != want || !ok {
					t.Errorf("Above of %v at level %d of %d: %d, %t, not %d", c, level, key, k, ok, want)
				}
			}
		}
	}
}

// The chapter's section "What follows".
func TestWhatFollows(t *testing.T) {
	for _, c := range configs.Right() {
		for level := range c.Bits {
			if low, high := shape.Keys(c, level), shape.Keys(c, level+1); low != 2*high || high == 0 {
				t.Errorf("%v has %d keys at level %d, and %d above", c, low, level, high)
			}
			if shape.Exact(c, level) && !shape.Exact(c, level+1) {
				t.Errorf("%v is exact at level %d, but not above", c, level)
			}
			for _, key := range configs.Within(configs.Count(c.Bits, 0)) {
				low, _ := shape.Above(c, level, key)
				high, ok := shape.Above(c, level+1, key)
				if !ok || low/2 != high || high >= shape.Keys(c, level+1) {
					t.Errorf("%v: %d belongs to %d at level %d, and to %d above", c, key, low, level, high)
				}
			}
		}
		if shape.Keys(c, c.Bits) != 1 || !shape.Exact(c, c.Bits) {
			t.Errorf("%v has %d keys at its highest level, and it is exact: %t", c, shape.Keys(c, c.Bits), shape.Exact(c, c.Bits))
		}
	}
}

// The chapter's examples.
func TestExamples(t *testing.T) {
	c := api.Config{Bits: 3, Rows: 1, Width: 2, Mode: api.Linear}
	for level, want := range []bool{false, false, true, true} {
		if got := shape.Exact(c, level); got != want {
			t.Errorf("level %d is exact: %t", level, got)
		}
	}
	if k, ok := shape.Above(c, 2, 6); k != 1 || !ok {
		t.Errorf("6 belongs to %d, %t at level 2", k, ok)
	}
}
