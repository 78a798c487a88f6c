package inner_test

import (
	"math"
	"math/big"
	"slices"
	"testing"

	"gauger/api"
	"gauger/configs"
	"gauger/inner"
	"gauger/levels"
	"gauger/shape"
	"gauger/sketch"
	"gauger/sketches"
	"gauger/strewn"
	"gauger/wide"
)

const (
	lowest  = math.MinInt64
	highest = math.MaxInt64
)

// leastWide and mostWide are -2^127 and 2^127 - 1.
var (
	leastWide = api.Wide{Hi: lowest}
	mostWide  = api.Wide{Hi: highest, Lo: math.MaxUint64}
)

// holdDot holds Dot of both, and of both the other way round, against what is wanted, and
// both behind it against what they were.
func holdDot(t *testing.T, a, b []int64, want api.Wide, fits bool) {
	t.Helper()
	was, were := slices.Clone(a), slices.Clone(b)
	if n, ok := inner.Dot(a, b); n != want || ok != fits {
		t.Errorf("Dot of %v and %v is %v, %t, not %v, %t", a, b, n, ok, want, fits)
	}
	if n, ok := inner.Dot(b, a); n != want || ok != fits {
		t.Errorf("Dot of %v and %v is %v, %t, not %v, %t", b, a, n, ok, want, fits)
	}
	if !slices.Equal(a, was) || !slices.Equal(b, were) {
		t.Errorf("%v and %v became %v and %v", was, were, a, b)
	}
}

func TestDotNamed(t *testing.T) {
	holdDot(t, nil, nil, api.Wide{}, true)
	holdDot(t, nil, []int64{}, api.Wide{}, true)
	holdDot(t, []int64{}, []int64{}, api.Wide{}, true)
	for _, x := range []struct {
		a, b []int64
		want api.Wide
	}{
		{[]int64{5}, []int64{7}, wide.Of(35)},
		{[]int64{-5}, []int64{7}, wide.Of(-35)},
		{[]int64{-5}, []int64{-7}, wide.Of(35)},
		{[]int64{0}, []int64{lowest}, api.Wide{}},
		{[]int64{1, 2, 3}, []int64{4, 5, 6}, wide.Of(32)},
		{[]int64{1, 2, 3}, []int64{6, 5, 4}, wide.Of(28)},
		{[]int64{1, 2, 3}, []int64{4, -5, 6}, wide.Of(12)},
		{[]int64{1, 0, 0}, []int64{4, 5, 6}, wide.Of(4)},
		{[]int64{0, 0, 1}, []int64{4, 5, 6}, wide.Of(6)},
		{[]int64{3, -3}, []int64{7, 7}, api.Wide{}},
	} {
		holdDot(t, x.a, x.b, x.want, true)
	}
}

// Products and sums beyond sixty-four bits, to the ends of 128.
func TestDotAtTheEdges(t *testing.T) {
	for _, x := range []struct {
		a, b []int64
		want api.Wide
	}{
		// From 2^63 on, and below -2^63, a number does not stand in sixty-four bits.
		{[]int64{highest}, []int64{1}, api.Wide{Lo: highest}},
		{[]int64{highest, 1}, []int64{1, 1}, api.Wide{Lo: 1 << 63}},
		{[]int64{lowest}, []int64{1}, api.Wide{Hi: -1, Lo: 1 << 63}},
		{[]int64{lowest, -1}, []int64{1, 1}, api.Wide{Hi: -1, Lo: highest}},
		{[]int64{lowest}, []int64{-1}, api.Wide{Lo: 1 << 63}},
		{[]int64{highest, highest, 1}, []int64{1, 1, 1}, api.Wide{Lo: math.MaxUint64}},
		{[]int64{highest, highest, 2}, []int64{1, 1, 1}, api.Wide{Hi: 1}},
		{[]int64{lowest, lowest}, []int64{1, 1}, api.Wide{Hi: -1}},
		{[]int64{lowest, lowest, -1}, []int64{1, 1, 1}, api.Wide{Hi: -2, Lo: math.MaxUint64}},
		{[]int64{1 << 32}, []int64{1 << 32}, api.Wide{Hi: 1}},
		{[]int64{1 << 32, 1 << 32}, []int64{-1 << 32, 1 << 32}, api.Wide{}},
		{[]int64{lowest}, []int64{lowest}, api.Wide{Hi: 1 << 62}},
		{[]int64{lowest}, []int64{highest}, api.Wide{Hi: -1 << 62, Lo: 1 << 63}},
		{[]int64{highest}, []int64{highest}, api.Wide{Hi: 1<<62 - 1, Lo: 1}},
		// The last ones that fit.
		{[]int64{lowest, highest, 2}, []int64{lowest, highest, highest}, mostWide},
		{[]int64{2, highest, lowest}, []int64{highest, highest, lowest}, mostWide},
		{[]int64{lowest, lowest, 2}, []int64{highest, highest, lowest}, leastWide},
		{[]int64{2, lowest, lowest}, []int64{lowest, highest, highest}, leastWide},
		{[]int64{lowest, -1, lowest}, []int64{lowest, 1, lowest}, mostWide},
		{[]int64{-1, lowest, lowest}, []int64{1, lowest, lowest}, mostWide},
		// From an end back again, and from one end to the other.
		{[]int64{lowest, -1, lowest, -1}, []int64{lowest, 1, lowest, 1}, api.Wide{Hi: highest, Lo: math.MaxUint64 - 1}},
		{[]int64{lowest, lowest, 2, 1}, []int64{highest, highest, lowest, 1}, api.Wide{Hi: lowest, Lo: 1}},
		{[]int64{lowest, -1, lowest, lowest, lowest}, []int64{lowest, 1, lowest, highest, highest}, api.Wide{Lo: math.MaxUint64}},
		{[]int64{lowest, lowest, 2, lowest, lowest}, []int64{highest, highest, lowest, lowest, lowest}, api.Wide{}},
	} {
		holdDot(t, x.a, x.b, x.want, true)
	}
}

// The first ones that do not fit: at the end, and on the way to a sum that would.
func TestDotBeyondTheEdges(t *testing.T) {
	for _, x := range []struct{ a, b []int64 }{
		{[]int64{lowest, lowest}, []int64{lowest, lowest}},
		{[]int64{0, lowest, 0, lowest, 0}, []int64{7, lowest, 7, lowest, 7}},
		{[]int64{lowest, highest, 2, 1}, []int64{lowest, highest, highest, 1}},
		{[]int64{1, lowest, highest, 2}, []int64{1, lowest, highest, highest}},
		{[]int64{lowest, lowest, 2, -1}, []int64{highest, highest, lowest, 1}},
		{[]int64{-1, lowest, lowest, 2}, []int64{1, highest, highest, lowest}},
		{[]int64{lowest, lowest, lowest}, []int64{highest, highest, highest}},
		// 2^127 on the way, and -1, or much more, behind it.
		{[]int64{lowest, lowest, -1}, []int64{lowest, lowest, 1}},
		{[]int64{lowest, lowest, lowest}, []int64{lowest, lowest, highest}},
		{[]int64{lowest, lowest, lowest, lowest, lowest}, []int64{lowest, lowest, highest, highest, highest}},
		// -2^127 - 1 on the way, and 1 behind it.
		{[]int64{lowest, lowest, 2, -1, 1}, []int64{highest, highest, lowest, 1, 1}},
		{[]int64{lowest, lowest, lowest, lowest}, []int64{highest, highest, highest, lowest}},
		// Round and round, to 0 again, if what does not fit were left out.
		{[]int64{lowest, lowest, lowest, lowest}, []int64{lowest, lowest, lowest, lowest}},
		{slices.Repeat([]int64{lowest}, 8), slices.Repeat([]int64{lowest}, 8)},
	} {
		holdDot(t, x.a, x.b, api.Wide{}, false)
	}
}

// The same numbers in another order: the sums on the way are others.
func TestDotGoesByPlaces(t *testing.T) {
	for _, x := range []struct {
		a, b []int64
		want api.Wide
		fits bool
	}{
		{[]int64{lowest, -1, lowest}, []int64{lowest, 1, lowest}, mostWide, true},
		{[]int64{lowest, lowest, -1}, []int64{lowest, lowest, 1}, api.Wide{}, false},
		{[]int64{1, 2, lowest, lowest, -1}, []int64{1, lowest, highest, highest, 1}, leastWide, true},
		{[]int64{2, lowest, lowest, -1, 1}, []int64{lowest, highest, highest, 1, 1}, api.Wide{}, false},
		{[]int64{2, lowest, lowest, 1, -1}, []int64{lowest, highest, highest, 1, 1}, leastWide, true},
	} {
		holdDot(t, x.a, x.b, x.want, x.fits)
	}
}

// Not as many on the one side as on the other: none at all, one too few at the end, and
// where a sum on the way would not fit either.
func TestDotOfUnlikeLengths(t *testing.T) {
	for _, turn := range []int64{0, 3, lowest} {
		l := slices.Repeat([]int64{turn}, 1000)
		for _, count := range []int{0, 1, 2, 3, 7, 8, 127, 128, 129, 256, 999} {
			for _, other := range []int{0, 1, 2, 3, 7, 8, 127, 128, 129, 256, 999, count + 1} {
				if other != count {
					holdDot(t, l[:count], l[:other], api.Wide{}, false)
				}
			}
		}
		holdDot(t, nil, l[:1], api.Wide{}, false)
	}
}

// whole tells the number.
func whole(t *testing.T, a api.Wide) *big.Int {
	t.Helper()
	n, ok := new(big.Int).SetString(wide.Text(a), 10)
	if !ok {
		t.Fatalf("%v is no number", a)
	}
	return n
}

// summed tells by whole numbers the sum of the products; 0 and false, if it does not fit
// on the way.
func summed(a, b []int64) (*big.Int, bool) {
	sum, end := new(big.Int), new(big.Int).Lsh(big.NewInt(1), 127)
	for i := range a {
		sum.Add(sum, new(big.Int).Mul(big.NewInt(a[i]), big.NewInt(b[i])))
		if sum.Cmp(end) >= 0 || sum.Cmp(new(big.Int).Neg(end)) < 0 {
			return new(big.Int), false
		}
	}
	return sum, true
}

// Of strewn numbers, some of which are as great as they may be, and of more than a row of
// cells has.
func TestDotOfAll(t *testing.T) {
	count := map[bool]int{}
	for from := range 60 {
		for _, length := range []int{1, 2, 3, 4, 7, 64, 128, 129, 2000} {
			shift := uint(from % 12)
			a, b := strewn.Signed(from, length, shift), strewn.Signed(from+77, length, shift/2)
			want, fits := summed(a, b)
			n, ok := inner.Dot(a, b)
			if whole(t, n).Cmp(want) != 0 || ok != fits {
				t.Errorf("Dot of %v and %v is %v, %t, not %d, %t", a, b, n, ok, want, fits)
			}
			holdDot(t, a, b, n, ok)
			count[fits]++
		}
	}
	if count[true] < 200 || count[false] < 30 {
		t.Errorf("too few that fit, or do not: %v", count)
	}
}

// What is handed in stays, with what lies behind it; one row may be both.
func TestDotLeavesItsRows(t *testing.T) {
	l := []int64{1, -2, 3, lowest, 4, 5, 6, highest}
	was := slices.Clone(l)
	holdDot(t, l[:3], l[:3], wide.Of(14), true)
	holdDot(t, l[:3], l[4:7], wide.Of(12), true)
	holdDot(t, l[:2], l[1:3], wide.Of(-8), true)
	holdDot(t, l[:3], l[:4], api.Wide{}, false)
	holdDot(t, slices.Repeat(l, 2), slices.Repeat(l, 2), api.Wide{}, false)
	if !slices.Equal(l, was) {
		t.Errorf("the numbers became %v", l)
	}
}

// same is all that a sketch tells of itself.
type same struct {
	config api.Config
	level  int
	cells  []int64
}

// told tells all that the sketches tell of themselves, of a nil nothing.
func told(all ...*sketch.Sketch) []same {
	tells := make([]same, len(all))
	for i, s := range all {
		if s != nil {
			tells[i] = same{s.Config(), s.Level(), s.Cells()}
		}
	}
	return tells
}

// holdInner holds Inner of both, and of both the other way round, against what is wanted,
// and both behind it against what they were.
func holdInner(t *testing.T, a, b *sketch.Sketch, want api.Wide, fails api.Errno) {
	t.Helper()
	before := told(a, b)
	if n, e := inner.Inner(a, b); n != want || e != fails {
		t.Errorf("Inner of %v and %v is %v, %v, not %v, %v", before[0], before[1], n, e, want, fails)
	}
	if n, e := inner.Inner(b, a); n != want || e != fails {
		t.Errorf("Inner of %v and %v is %v, %v, not %v, %v", before[1], before[0], n, e, want, fails)
	}
	for i, x := range told(a, b) {
		if was := before[i]; x.config != was.config || x.level != was.level || !slices.Equal(x.cells, was.cells) {
			t.Errorf("%v became %v", was, x)
		}
	}
}

// linear tells those configs whose mode is Linear.
func linear(all []api.Config) []api.Config {
	return slices.DeleteFunc(all, func(c api.Config) bool { return c.Mode != api.Linear })
}

// The chapter's example, at each level.
func TestExample(t *testing.T) {
	for _, c := range linear(sketches.Configs()) {
		if c.Width > 1 {
			continue
		}
		for _, level := range configs.Levels(c.Bits) {
			last := configs.Count(c.Bits, level) - 1
			a := sketches.Fed(c, level, []api.Update{{Key: 0, Delta: 2}, {Key: last, Delta: 3}})
			b := sketches.Fed(c, level, []api.Update{{Key: last / 2, Delta: 7}})
			holdInner(t, a, b, wide.Of(35), api.OK)
		}
	}
}

// Rows of three cells, which are a's, and those of b.
func TestInnerNamed(t *testing.T) {
	for _, x := range []struct {
		a, b  []int64
		want  api.Wide
		fails api.Errno
	}{
		{[]int64{0, 0, 0}, []int64{0, 0, 0}, api.Wide{}, api.OK},
		{[]int64{1, 2, 3}, []int64{4, 5, 6}, wide.Of(32), api.OK},
		{[]int64{1, 2, 3}, []int64{0, 0, 0}, api.Wide{}, api.OK},
		{[]int64{1, 2, 3, 1, 2, 4}, []int64{4, 5, 6, 4, 5, 6}, wide.Of(32), api.OK},
		{[]int64{1, 2, 4, 1, 2, 3}, []int64{4, 5, 6, 4, 5, 6}, wide.Of(32), api.OK},
		{[]int64{1, 2, 3, 1, 2, 3}, []int64{6, 5, 4, 4, 5, 6}, wide.Of(28), api.OK},
		{[]int64{1, 2, 3, 4, 5, 6}, []int64{9, 9, 9, 0, 0, 1}, wide.Of(6), api.OK},
		{[]int64{1, 2, 3, 4, 5, 6}, []int64{9, 9, 9, -1, 0, 0}, wide.Of(-4), api.OK},
		{[]int64{5, 0, 0, -5, 0, 0, 0, 0, 0}, []int64{1, 0, 0, 1, 0, 0, 1, 0, 0}, wide.Of(-5), api.OK},
		// The last sums that fit, and the first ones that do not.
		{[]int64{lowest, highest, 2}, []int64{lowest, highest, highest}, mostWide, api.OK},
		{[]int64{lowest, lowest, 2}, []int64{highest, highest, lowest}, leastWide, api.OK},
		{[]int64{lowest, highest, 2, lowest, lowest, 2}, []int64{lowest, highest, highest, highest, highest, lowest}, leastWide, api.OK},
		{[]int64{lowest, lowest, 0}, []int64{lowest, lowest, 0}, api.Wide{}, api.ErrOverflow},
		{[]int64{lowest, lowest, -1}, []int64{lowest, lowest, 1}, api.Wide{}, api.ErrOverflow},
		{[]int64{lowest, -1, lowest}, []int64{lowest, 1, lowest}, mostWide, api.OK},
		{[]int64{lowest, lowest, lowest}, []int64{highest, highest, highest}, api.Wide{}, api.ErrOverflow},
		{[]int64{lowest, lowest, 0, 1, 2, 3}, []int64{lowest, lowest, 0, 4, 5, 6}, api.Wide{}, api.ErrOverflow},
		{[]int64{1, 2, 3, lowest, lowest, 0}, []int64{4, 5, 6, lowest, lowest, 0}, api.Wide{}, api.ErrOverflow},
	} {
		c := api.Config{Bits: 6, Rows: len(x.a) / 3, Width: 3, Mode: api.Linear, Seed: 5}
		for _, level := range configs.Levels(c.Bits) {
			holdInner(t, sketches.Filled(c, level, x.a...), sketches.Filled(c, level, x.b...), x.want, x.fails)
		}
	}
}

// wides has pairs of numbers the first of which is less: by either half alone, and by
// both, of each sign.
func wides() [][2]api.Wide {
	return [][2]api.Wide{
		{wide.Of(3), wide.Of(4)},
		{wide.Of(-4), wide.Of(-3)},
		{wide.Of(-1), {}},
		{wide.Of(lowest), wide.Of(highest)},
		{{Lo: highest}, {Lo: 1 << 63}},
		{{Hi: -1, Lo: highest}, {Hi: -1, Lo: 1 << 63}},
		{{Lo: math.MaxUint64}, {Hi: 1}},
		{{Hi: -1, Lo: math.MaxUint64}, {Hi: 1}},
		{{Hi: -2, Lo: math.MaxUint64}, {Hi: -1}},
		{leastWide, mostWide},
		{leastWide, {}},
		{leastWide, {Hi: lowest, Lo: 1}},
		{{}, mostWide},
		{{Hi: highest, Lo: math.MaxUint64 - 1}, mostWide},
	}
}

// parts tells two rows of six numbers whose Dot is the number: four quarters of its upper
// half, and two parts of its lower one, so that each sum on the way fits.
func parts(n api.Wide) (a, b []int64) {
	a = []int64{n.Hi, n.Hi, n.Hi, n.Hi, int64(n.Lo >> 1), int64(n.Lo & 1)}
	return a, []int64{1 << 62, 1 << 62, 1 << 62, 1 << 62, 2, 1}
}

// holdRows holds Inner of sketches whose rows have these products against what is wanted.
func holdRows(t *testing.T, products []api.Wide, want api.Wide) {
	t.Helper()
	var cells, others []int64
	for _, n := range products {
		a, b := parts(n)
		holdDot(t, a, b, n, true)
		cells, others = append(cells, a...), append(others, b...)
	}
	c := api.Config{Bits: 6, Rows: len(products), Width: 6, Mode: api.Linear, Seed: 5}
	holdInner(t, sketches.Filled(c, 3, cells...), sketches.Filled(c, 3, others...), want, api.OK)
}

// The least product in each row in turn alone, and in all rows but that one.
func TestLeastInEachRow(t *testing.T) {
	for rows := 2; rows <= api.MaxRows; rows++ {
		for at := range rows {
			for _, x := range wides() {
				alone, others := slices.Repeat(x[1:], rows), slices.Repeat(x[:1], rows)
				alone[at], others[at] = x[0], x[1]
				holdRows(t, alone, x[0])
				holdRows(t, others, x[0])
			}
		}
	}
	for _, x := range wides() {
		holdRows(t, x[:1], x[0])
		holdRows(t, x[1:], x[1])
	}
}

// Rows of many unlike products, rising, falling, and with the least one between.
func TestLeastOfMany(t *testing.T) {
	rising := []api.Wide{leastWide, wide.Of(lowest), wide.Of(-1), {}, wide.Of(7), {Lo: 1 << 63}, {Hi: 1}, mostWide}
	for from := range rising {
		for step := 1; step < len(rising); step += 2 {
			var turned []api.Wide
			for i := range rising {
				turned = append(turned, rising[(from+i*step)%len(rising)])
			}
			holdRows(t, turned, leastWide)
		}
		holdRows(t, rising[from:], rising[from])
	}
}

// wideLinear tells the configs of the mode Linear with at least so many columns.
func wideLinear(width int) []api.Config {
	all := linear(sketches.Configs())
	return slices.DeleteFunc(all, func(c api.Config) bool { return c.Width < width })
}

// One row alone does not fit, be it the first, the last, or one between; as soon as it
// has one product less, it does. Its product would be the greatest, or the least.
func TestOverflowInOneRow(t *testing.T) {
	for _, x := range []struct{ a, b []int64 }{
		{[]int64{lowest, lowest}, []int64{lowest, lowest}},
		{[]int64{lowest, lowest, -1}, []int64{lowest, lowest, 1}},
		{[]int64{lowest, lowest, lowest}, []int64{highest, highest, highest}},
	} {
		for i, c := range wideLinear(len(x.a)) {
			level := i % (c.Bits + 1)
			for row := range c.Rows {
				for _, col := range []int{0, c.Width - len(x.a)} {
					a, b := sketches.Full(c, 3), sketches.Full(c, 1)
					copy(a[row*c.Width+col:], x.a)
					copy(b[row*c.Width+col:], x.b)
					s, o := sketches.Filled(c, level, a...), sketches.Filled(c, level, b...)
					holdInner(t, s, o, api.Wide{}, api.ErrOverflow)
					a[row*c.Width+col] = 0
					holdInner(t, sketches.Filled(c, level, a...), o, leastOf(t, c, a, b), api.OK)
				}
			}
		}
	}
}

// Products of unlike rows are never summed: the last cell of a row, and the first one of
// the next, would not fit together.
func TestRowsStandApart(t *testing.T) {
	for i, c := range linear(sketches.Configs()) {
		for row := 1; row < c.Rows; row++ {
			a := sketches.Full(c, 0)
			a[row*c.Width-1], a[row*c.Width] = lowest, lowest
			s, want := sketches.Filled(c, i%(c.Bits+1), a...), api.Wide{}
			if c.Rows == 2 {
				want = api.Wide{Hi: 1 << 62}
			}
			holdInner(t, s, s, want, api.OK)
		}
	}
}

// leastOf tells by whole numbers the least product of two rows of such cells.
func leastOf(t *testing.T, c api.Config, a, b []int64) api.Wide {
	t.Helper()
	var least *big.Int
	for from := 0; from < len(a); from += c.Width {
		sum, fits := summed(a[from:from+c.Width], b[from:from+c.Width])
		if !fits {
			t.Fatalf("%v and %v do not fit", a, b)
		}
		if least == nil || sum.Cmp(least) < 0 {
			least = sum
		}
	}
	upper := new(big.Int).Rsh(least, 64)
	lower := new(big.Int).Sub(least, new(big.Int).Lsh(upper, 64))
	return api.Wide{Hi: upper.Int64(), Lo: lower.Uint64()}
}

// Strewn cells of all configs, at each level, be it exact or not.
func TestInnerOfAll(t *testing.T) {
	exact := map[bool]int{}
	for i, c := range linear(sketches.Configs()) {
		for _, level := range configs.Levels(c.Bits) {
			count, shift := c.Rows*c.Width, uint(4+level%9)
			a, b := strewn.Signed(i+level, count, shift), strewn.Signed(i+level+33, count, 9-shift/2)
			s, o := sketches.Filled(c, level, a...), sketches.Filled(c, level, b...)
			holdInner(t, s, o, leastOf(t, c, a, b), api.OK)
			holdInner(t, s, s, leastOf(t, c, a, a), api.OK)
			exact[shape.Exact(c, level)]++
		}
	}
	if exact[true] < 30 || exact[false] < 30 {
		t.Errorf("too few that are exact, or are not: %v", exact)
	}
}

func TestWithItself(t *testing.T) {
	c := api.Config{Bits: 6, Rows: 2, Width: 2, Mode: api.Linear, Seed: 5}
	for _, x := range []struct {
		l     []int64
		want  api.Wide
		fails api.Errno
	}{
		{[]int64{0, 0, 0, 0}, api.Wide{}, api.OK},
		{[]int64{3, 4, 5, -6}, wide.Of(25), api.OK},
		{[]int64{5, -6, 3, 4}, wide.Of(25), api.OK},
		{[]int64{lowest, 0, highest, 0}, api.Wide{Hi: 1<<62 - 1, Lo: 1}, api.OK},
		{[]int64{lowest, highest, lowest, highest}, api.Wide{Hi: highest, Lo: 1}, api.OK},
		{[]int64{lowest, lowest, 1, 1}, api.Wide{}, api.ErrOverflow},
		{[]int64{1, 1, lowest, lowest}, api.Wide{}, api.ErrOverflow},
	} {
		s := sketches.Filled(c, 0, x.l...)
		holdInner(t, s, s, x.want, x.fails)
		holdInner(t, s, s.Copy(), x.want, x.fails)
	}
}

// One of the two nil, and both: in each mode, and where nothing would fit.
func TestOfNone(t *testing.T) {
	holdInner(t, nil, nil, api.Wide{}, api.ErrIncompatible)
	for i, c := range sketches.Configs() {
		for _, turn := range []int64{0, 3, lowest} {
			s := sketches.Filled(c, i%(c.Bits+1), sketches.Full(c, turn)...)
			holdInner(t, s, nil, api.Wide{}, api.ErrIncompatible)
		}
	}
}

// Another config in each of its fields, and another level: in each mode, and where
// nothing would fit; grids of as many cells in all are no better.
func TestIncompatible(t *testing.T) {
	for i, c := range sketches.Configs() {
		for _, turn := range []int64{3, lowest} {
			level := i % min(c.Bits, 3)
			s := sketches.Filled(c, level, sketches.Full(c, turn)...)
			turned := c
			turned.Rows, turned.Width = c.Width, c.Rows
			for _, other := range append(configs.Others(c), turned) {
				if other == c || shape.Keys(other, level) == 0 {
					continue
				}
				holdInner(t, s, sketches.Filled(other, level, sketches.Full(other, turn)...), api.Wide{}, api.ErrIncompatible)
			}
			for _, other := range configs.Levels(c.Bits) {
				if other != level {
					holdInner(t, s, sketches.Filled(c, other, sketches.Full(c, turn)...), api.Wide{}, api.ErrIncompatible)
				}
			}
		}
	}
}

func TestErrorsInTheirOrder(t *testing.T) {
	right := api.Config{Bits: 6, Rows: 2, Width: 2, Mode: api.Linear, Seed: 5}
	conservative, median := right, right
	conservative.Mode = api.Conservative
	median.Mode, median.Seed = api.Median, 6
	for _, x := range []struct {
		name          string
		a, b          api.Config
		level, others int
		n             int64
		fails         api.Errno
	}{
		{"all right", right, right, 1, 1, 9, api.OK},
		{"no room", right, right, 1, 1, lowest, api.ErrOverflow},
		{"another mode", conservative, conservative, 1, 1, 9, api.ErrMode},
		{"another mode, no room", conservative, conservative, 1, 1, lowest, api.ErrMode},
		{"the middle one, no room", median, median, 1, 1, lowest, api.ErrMode},
		{"another level", right, right, 1, 2, 9, api.ErrIncompatible},
		{"another level, no room", right, right, 1, 2, lowest, api.ErrIncompatible},
		{"another level and mode", conservative, conservative, 1, 2, 9, api.ErrIncompatible},
		{"another level and mode, no room", median, median, 1, 2, lowest, api.ErrIncompatible},
		{"one of another mode", right, conservative, 1, 1, 9, api.ErrIncompatible},
		{"one of another mode, no room", right, conservative, 1, 1, lowest, api.ErrIncompatible},
		{"both of other modes", conservative, median, 1, 1, lowest, api.ErrIncompatible},
	} {
		t.Run(x.name, func(t *testing.T) {
			want := api.Wide{}
			if x.fails == api.OK {
				want = wide.Of(2 * x.n * x.n)
			}
			a := sketches.Filled(x.a, x.level, sketches.Full(x.a, x.n)...)
			b := sketches.Filled(x.b, x.others, sketches.Full(x.b, x.n)...)
			holdInner(t, a, b, want, x.fails)
		})
	}
}

// In each mode but Linear there is no product: of noughts, of cells that fit, and of such
// that do not, and of a sketch with itself.
func TestModes(t *testing.T) {
	for i, c := range sketches.Configs() {
		for _, turn := range []int64{0, 2, lowest} {
			level := i % (c.Bits + 1)
			l := sketches.Full(c, turn)
			s := sketches.Filled(c, level, l...)
			want, fails := api.Wide{}, api.ErrMode
			switch {
			case c.Mode == api.Linear && turn == lowest && c.Width > 1:
				fails = api.ErrOverflow
			case c.Mode == api.Linear:
				want, fails = leastOf(t, c, l, l), api.OK
			}
			holdInner(t, s, s, want, fails)
			holdInner(t, s, s.Copy(), want, fails)
		}
	}
}

// What was told stays when the sketches change, and is told anew then.
func TestInnerKeepsNothing(t *testing.T) {
	c := api.Config{Bits: 6, Rows: 2, Width: 1, Mode: api.Linear, Seed: 5}
	s, o := sketches.Filled(c, 0, 3, 4), sketches.Filled(c, 0, 5, 6)
	holdInner(t, s, o, wide.Of(15), api.OK)
	if e := s.Update(1, 10); e != api.OK {
		t.Error(e)
	}
	holdInner(t, s, o, wide.Of(65), api.OK)
	if e := o.Update(2, -5); e != api.OK {
		t.Error(e)
	}
	holdInner(t, s, o, api.Wide{}, api.OK)
	holdInner(t, s, s, wide.Of(169), api.OK)
}

// plus tells the sum, which fits.
func plus(t *testing.T, a, b api.Wide) api.Wide {
	t.Helper()
	sum, fits := wide.Add(a, b)
	if !fits {
		t.Fatalf("%v and %v do not fit together", a, b)
	}
	return sum
}

// ofSame tells the sum of the products of what the same keys have.
func ofSame(t *testing.T, has, have []int64) api.Wide {
	t.Helper()
	var sum api.Wide
	for key, n := range has {
		sum = plus(t, sum, wide.Times(n, have[key]))
	}
	return sum
}

// ofUnlike tells the least sum, of those of all rows, of the products of what unlike keys
// with the same column have.
func ofUnlike(t *testing.T, c api.Config, level int, has, have []int64) api.Wide {
	t.Helper()
	cols := make([][]int, len(has))
	for key := range cols {
		cols[key] = shape.Columns(c, level, uint64(key))
	}
	var least api.Wide
	for row := range c.Rows {
		var sum api.Wide
		for key, n := range has {
			for other, m := range have {
				if other != key && cols[other][row] == cols[key][row] {
					sum = plus(t, sum, wide.Times(n, m))
				}
			}
		}
		if row == 0 || wide.Less(sum, least) {
			least = sum
		}
	}
	return least
}

// The chapter's section "What follows": where no key has less than 0, Inner is the sum of
// the products of what the same keys have, and the least sum of those of unlike keys with
// the same column; it is never less than the first sum alone.
func TestWhatFollows(t *testing.T) {
	more := map[bool]int{}
	for i, c := range linear(sketches.Small()) {
		for _, level := range configs.Levels(c.Bits) {
			keys := configs.Count(c.Bits, level)
			first, second := levels.Rises(i, keys), levels.Rises(i+20, keys)
			a, b := sketches.Fed(c, level, first), sketches.Fed(c, level, second)
			has, have := levels.Sums(keys, first), levels.Sums(keys, second)
			same := ofSame(t, has, have)
			want := plus(t, same, ofUnlike(t, c, level, has, have))
			holdInner(t, a, b, want, api.OK)
			if n, _ := inner.Inner(a, b); wide.Less(n, same) {
				t.Errorf("Inner in %v at level %d is %v, less than %v", c, level, n, same)
			}
			more[want != same]++
		}
	}
	if more[true] < 10 || more[false] < 10 {
		t.Errorf("too few that are more, or are not: %v", more)
	}
}
