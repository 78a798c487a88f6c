package configs_test

import (
	"math"
	"slices"
	"testing"

	"gauger/api"
	"gauger/configs"
)

// right tells by the words of chapter 7 whether the config is right.
func right(c api.Config) bool {
	return c.Bits >= 1 && c.Bits <= 59 && c.Rows >= 1 && c.Rows <= 8 && c.Width >= 1 && c.Width <= 128 && c.Mode >= 1 && c.Mode <= 3
}

// unlike tells in how many fields the two are not the same.
func unlike(c, d api.Config) int {
	count := 0
	for _, same := range []bool{c.Bits == d.Bits, c.Rows == d.Rows, c.Width == d.Width, c.Mode == d.Mode, c.Seed == d.Seed} {
		if !same {
			count++
		}
	}
	return count
}

func TestFields(t *testing.T) {
	limits := map[string][]int{"Bits": {1, 59}, "Rows": {1, 8}, "Width": {1, 128}, "Mode": {1, 3}}
	for _, f := range configs.Fields() {
		for _, n := range f.Good {
			c := configs.Base()
			if f.Put(&c, n); !right(c) || unlike(c, configs.Base()) > 1 {
				t.Errorf("%s of %d: %v", f.Name, n, c)
			}
		}
		for _, n := range slices.Concat(f.Wrong, configs.Nowhere()) {
			c := configs.Base()
			if f.Put(&c, n); right(c) || unlike(c, configs.Base()) != 1 {
				t.Errorf("%s of %d: %v", f.Name, n, c)
			}
		}
		ends := limits[f.Name]
		if ends == nil {
			t.Fatalf("%s has no limits", f.Name)
		}
		delete(limits, f.Name)
		if !slices.Contains(f.Good, ends[0]) || !slices.Contains(f.Good, ends[1]) || !slices.Contains(f.Wrong, ends[0]-1) || !slices.Contains(f.Wrong, ends[1]+1) {
			t.Errorf("%s is not tried at its limits %v: %v, and %v", f.Name, ends, f.Good, f.Wrong)
		}
	}
	if len(limits) > 0 {
		t.Errorf("not tried: %v", limits)
	}
	if got := configs.Modes(); !slices.Equal(got, []int{1, 2, 3}) {
		t.Errorf("the modes are %v", got)
	}
}

func TestRightAndWrong(t *testing.T) {
	all := configs.Right()
	for _, c := range append(all, configs.Base()) {
		if !right(c) {
			t.Errorf("%v is not right", c)
		}
	}
	for _, c := range configs.Wrong() {
		if right(c) {
			t.Errorf("%v is right", c)
		}
	}
	for _, seed := range configs.Seeds() {
		if !slices.ContainsFunc(all, func(c api.Config) bool { return c.Seed == seed }) {
			t.Errorf("the seed %d is not tried", seed)
		}
	}
}

func TestOthers(t *testing.T) {
	for _, c := range append(configs.Right(), configs.Base()) {
		seen := map[string]bool{}
		for _, d := range configs.Others(c) {
			if !right(d) || unlike(c, d) != 1 {
				t.Errorf("%v is not right, or not unlike %v in one field", d, c)
			}
			seen["Bits"] = seen["Bits"] || c.Bits != d.Bits
			seen["Rows"] = seen["Rows"] || c.Rows != d.Rows
			seen["Width"] = seen["Width"] || c.Width != d.Width
			seen["Mode"] = seen["Mode"] || c.Mode != d.Mode
			seen["Seed"] = seen["Seed"] || c.Seed != d.Seed
		}
		for name, ok := range seen {
			if !ok {
				t.Errorf("no other %s of %v is tried", name, c)
			}
		}
	}
}

func TestLevels(t *testing.T) {
	for bits := 1; bits <= 59; bits++ {
		all := configs.Levels(bits)
		if len(all) != bits+1 || !slices.IsSorted(all) || all[0] != 0 || all[bits] != bits {
			t.Errorf("the levels of %d bits are %v", bits, all)
		}
		beyond := configs.Beyond(bits)
		if slices.ContainsFunc(beyond, func(level int) bool { return level >= 0 && level <= bits }) {
			t.Errorf("%d bits have some of the levels %v", bits, beyond)
		}
		if !slices.Contains(beyond, -1) || !slices.Contains(beyond, bits+1) {
			t.Errorf("the levels just beyond those of %d bits are not tried", bits)
		}
		for _, level := range all {
			if got := configs.Count(bits, level); got != uint64(math.Pow(2, float64(bits-level))) {
				t.Errorf("level %d of %d bits has %d keys", level, bits, got)
			}
		}
	}
}

func TestLast(t *testing.T) {
	for _, x := range []struct {
		bits int
		want uint64
	}{{1, 1}, {2, 3}, {3, 7}, {10, 1023}, {58, 1<<58 - 1}, {59, 1<<59 - 1}} {
		if got := configs.Last(x.bits); got != x.want {
			t.Errorf("the last key of %d bits is %d, not %d", x.bits, got, x.want)
		}
	}
}

func TestAbove(t *testing.T) {
	for _, x := range []struct {
		key   uint64
		level int
		want  uint64
	}{
		{6, 0, 6}, {6, 1, 3}, {6, 2, 1}, {6, 3, 0}, {7, 1, 3}, {0, 5, 0},
		{1<<59 - 1, 27, 1<<32 - 1}, {1<<59 - 1, 58, 1}, {1<<59 - 1, 59, 0}, {1 << 58, 58, 1},
	} {
		if got := configs.Above(x.key, x.level); got != x.want {
			t.Errorf("%d belongs to %d at level %d, not to %d", x.key, got, x.level, x.want)
		}
	}
}

func TestExact(t *testing.T) {
	for _, x := range []struct{ bits, width, want int }{
		{3, 1, 3}, {3, 2, 2}, {3, 3, 2}, {3, 4, 1}, {3, 7, 1}, {3, 8, 0}, {3, 128, 0},
		{7, 127, 1}, {7, 128, 0}, {8, 128, 1}, {59, 128, 52}, {59, 127, 53}, {59, 1, 59}, {1, 1, 1}, {1, 2, 0},
	} {
		c := api.Config{Bits: x.bits, Rows: 1, Width: x.width, Mode: api.Linear}
		if got := configs.Exact(c); got != x.want {
			t.Errorf("of %d bits and %d columns the first exact level is %d, not %d", x.bits, x.width, got, x.want)
		}
	}
	for _, c := range configs.Right() {
		for _, level := range configs.Levels(c.Bits) {
			if (configs.Count(c.Bits, level) <= uint64(c.Width)) != (level >= configs.Exact(c)) {
				t.Errorf("of %v level %d is on the wrong side of %d", c, level, configs.Exact(c))
			}
		}
	}
}

func TestKeys(t *testing.T) {
	for _, count := range []uint64{1, 2, 4, 128, 1 << 32, 1 << 59} {
		within, outside := configs.Within(count), configs.Outside(count)
		if slices.Max(within) != count-1 || slices.Min(within) != 0 {
			t.Errorf("%v are not the first and the last of %d keys, and some between", within, count)
		}
		if slices.Min(outside) != count || outside[0] != count {
			t.Errorf("%v are not the one behind %d keys, and some behind that", outside, count)
		}
	}
}

func TestKnown(t *testing.T) {
	modes := map[int]int{}
	for _, x := range configs.Known() {
		c := x.Config
		if !right(c) || x.Level < 0 || x.Level > c.Bits || x.Key >= configs.Count(c.Bits, x.Level) {
			t.Errorf("%v has no key %d at level %d", c, x.Key, x.Level)
		}
		if len(x.Cols) != c.Rows || slices.Min(x.Cols) < 0 || slices.Max(x.Cols) >= c.Width {
			t.Errorf("%v are no columns of %v", x.Cols, c)
		}
		modes[c.Mode]++
	}
	if modes[api.Linear] < 10 || modes[api.Linear] != modes[api.Conservative] || modes[api.Linear] != modes[api.Median] {
		t.Errorf("the modes are not tried alike: %v", modes)
	}
}
