package grid_test

import (
	"math"
	"math/big"
	"slices"
	"testing"

	"gauger/api"
	"gauger/grid"
	"gauger/strewn"
)

const (
	least = math.MinInt64
	most  = math.MaxInt64
)

// sizes has the rows and columns that are asked for, and those that there are then.
var sizes = []struct{ askedRows, askedWidth, rows, width int }{
	{0, 0, 0, 0},
	{0, 1, 0, 1},
	{0, 128, 0, 128},
	{1, 0, 1, 0},
	{8, 0, 8, 0},
	{1, 1, 1, 1},
	{1, 6, 1, 6},
	{6, 1, 6, 1},
	{2, 3, 2, 3},
	{3, 2, 3, 2},
	{3, 3, 3, 3},
	{8, 1, 8, 1},
	{1, 128, 1, 128},
	{7, 127, 7, 127},
	{8, 128, 8, 128},
	{-1, 4, 0, 4},
	{4, -1, 4, 0},
	{-1, -1, 0, 0},
	{-8, -128, 0, 0},
	{9, 3, 8, 3},
	{3, 129, 3, 128},
	{9, 129, 8, 128},
	{128, 8, 8, 8},
	{100, 1000, 8, 128},
	{-2, 129, 0, 128},
	{9, -2, 8, 0},
	{1 << 32, 1 << 32, 8, 128},
	{-1 << 32, 1<<32 + 1, 0, 128},
	{math.MaxInt, math.MaxInt, 8, 128},
	{math.MinInt, math.MinInt, 0, 0},
	{math.MinInt, math.MaxInt, 0, 128},
	{math.MaxInt, math.MinInt, 8, 0},
}

// outside has places beside those from 0 to one less than count.
func outside(count int) []int {
	return []int{-1, -2, -count - 1, -1 << 32, math.MinInt + 1, math.MinInt, count, count + 1, 2*count + 1, 1 << 32, 1 << 62, math.MaxInt - 1, math.MaxInt}
}

// beside calls for places that are not in a grid of so many rows and columns: those
// outside on one side, and those outside on both.
func beside(rows, width int, call func(row, col int)) {
	for _, row := range outside(rows) {
		for col := range width {
			call(row, col)
		}
		for _, col := range outside(width) {
			call(row, col)
		}
	}
	for row := range rows {
		for _, col := range outside(width) {
			call(row, col)
		}
	}
}

// hold holds all that a grid tells against its rows, columns and numbers.
func hold(t *testing.T, g *grid.Grid, rows, width int, want []int64) {
	t.Helper()
	if g.Rows() != rows || g.Width() != width {
		t.Fatalf("%d rows of %d columns, not %d of %d", g.Rows(), g.Width(), rows, width)
	}
	if got := g.Cells(); !slices.Equal(got, want) {
		t.Errorf("the cells of %d rows of %d columns are %v, not %v", rows, width, got, want)
	}
	for i, n := range want {
		if got := g.At(i/width, i%width); got != n {
			t.Errorf("the cell %d of row %d is %d, not %d", i%width, i/width, got, n)
		}
	}
}

// fill puts the numbers into the cells, row by row.
func fill(t *testing.T, g *grid.Grid, l []int64) {
	t.Helper()
	for i, n := range l {
		if row, col := i/g.Width(), i%g.Width(); !g.Put(row, col, n) {
			t.Fatalf("nothing is put into the cell %d of row %d", col, row)
		}
	}
}

// of tells a grid of so many rows and columns, with these numbers.
func of(t *testing.T, rows, width int, l ...int64) *grid.Grid {
	t.Helper()
	g := grid.New(rows, width)
	fill(t, g, l)
	return g
}

func TestNew(t *testing.T) {
	for _, x := range sizes {
		hold(t, grid.New(x.askedRows, x.askedWidth), x.rows, x.width, make([]int64, x.rows*x.width))
	}
}

// The chapter's example.
func TestExample(t *testing.T) {
	g := grid.New(2, 3)
	if !g.Put(1, 2, 7) {
		t.Error("nothing is put")
	}
	hold(t, g, 2, 3, []int64{0, 0, 0, 0, 0, 7})
}

func TestPutAlone(t *testing.T) {
	for _, x := range sizes {
		g, want := grid.New(x.askedRows, x.askedWidth), make([]int64, x.rows*x.width)
		for i := range want {
			row, col := i/x.width, i%x.width
			for _, n := range []int64{7, most, -1, least} {
				if !g.Put(row, col, n) || g.At(row, col) != n {
					t.Errorf("the cell %d of row %d is %d, not %d", col, row, g.At(row, col), n)
				}
			}
			want[i] = least
			if got := g.Cells(); !slices.Equal(got, want) {
				t.Fatalf("the cells are %v, not %v", got, want)
			}
			if !g.Put(row, col, 0) {
				t.Errorf("0 is not put into the cell %d of row %d", col, row)
			}
			want[i] = 0
		}
		hold(t, g, x.rows, x.width, want)
	}
}

func TestPutOfAll(t *testing.T) {
	for _, x := range sizes {
		g := grid.New(x.askedRows, x.askedWidth)
		for from := range 3 {
			l := strewn.Signed(from, x.rows*x.width, 0)
			fill(t, g, l)
			hold(t, g, x.rows, x.width, l)
		}
	}
}

func TestNoSuchCell(t *testing.T) {
	for _, x := range sizes {
		// No number is 0, so that one of another cell would be seen.
		l := slices.Repeat([]int64{least, 5, most, -1}, x.rows*x.width/4+1)[:x.rows*x.width]
		g := grid.New(x.askedRows, x.askedWidth)
		fill(t, g, l)
		beside(x.rows, x.width, func(row, col int) {
			if got := g.At(row, col); got != 0 {
				t.Errorf("the cell %d of row %d is %d, though %d rows of %d columns have none", col, row, got, x.rows, x.width)
			}
			if g.Put(row, col, 77) {
				t.Errorf("into the cell %d of row %d is put, though %d rows of %d columns have none", col, row, x.rows, x.width)
			}
		})
		hold(t, g, x.rows, x.width, l)
	}
}

func TestCellsAreOfTheirOwn(t *testing.T) {
	l := []int64{1, 2, 3, 4, 5, 6}
	g := of(t, 2, 3, l...)
	cells, others := g.Cells(), g.Cells()
	clear(cells)
	hold(t, g, 2, 3, l)
	_ = append(others[:2], 77)
	_ = append(others, 88)
	hold(t, g, 2, 3, l)
	later := g.Cells()
	g.Put(0, 0, 99)
	if !slices.Equal(later, l) || !slices.Equal(cells, make([]int64, 6)) {
		t.Errorf("what Cells told became %v, and %v", later, cells)
	}
	if e := g.Plus(g); e != api.OK || !slices.Equal(later, l) {
		t.Errorf("%v: what Cells told became %v", e, later)
	}
	if e := g.Minus(of(t, 2, 3, l...)); e != api.OK || !slices.Equal(later, l) {
		t.Errorf("%v: what Cells told became %v", e, later)
	}
}

func TestCopy(t *testing.T) {
	for _, x := range sizes {
		l := strewn.Signed(1, x.rows*x.width, 0)
		g := grid.New(x.askedRows, x.askedWidth)
		fill(t, g, l)
		h := g.Copy()
		hold(t, h, x.rows, x.width, l)
		other := strewn.Signed(2, x.rows*x.width, 0)
		fill(t, h, other)
		hold(t, g, x.rows, x.width, l)
		k := h.Copy()
		fill(t, h, l)
		hold(t, k, x.rows, x.width, other)
		fill(t, g, make([]int64, len(l)))
		hold(t, h, x.rows, x.width, l)
		hold(t, k, x.rows, x.width, other)
	}
}

func TestCopyIsPutTogetherAlone(t *testing.T) {
	g := of(t, 2, 2, 1, 2, 3, 4)
	h := g.Copy()
	if e := h.Plus(of(t, 2, 2, 10, 20, 30, 40)); e != api.OK {
		t.Error(e)
	}
	hold(t, g, 2, 2, []int64{1, 2, 3, 4})
	hold(t, h, 2, 2, []int64{11, 22, 33, 44})
	if e := g.Minus(g); e != api.OK {
		t.Error(e)
	}
	hold(t, g, 2, 2, []int64{0, 0, 0, 0})
	hold(t, h, 2, 2, []int64{11, 22, 33, 44})
}

func TestMadeApart(t *testing.T) {
	g, h := grid.New(2, 2), grid.New(2, 2)
	g.Put(0, 1, 5)
	hold(t, h, 2, 2, make([]int64, 4))
	hold(t, g, 2, 2, []int64{0, 5, 0, 0})
}

// named has two numbers each, and what they come to at the edges of sixty-four
// bits; an error beside 0.
var named = []struct {
	a, b        int64
	plus, minus int64
	over, under api.Errno
}{
	{0, 0, 0, 0, api.OK, api.OK},
	{5, 3, 8, 2, api.OK, api.OK},
	{3, 5, 8, -2, api.OK, api.OK},
	{-5, -3, -8, -2, api.OK, api.OK},
	{most, 0, most, most, api.OK, api.OK},
	{most, 1, 0, most - 1, api.ErrOverflow, api.OK},
	{most - 1, 1, most, most - 2, api.OK, api.OK},
	{most, -1, most - 1, 0, api.OK, api.ErrOverflow},
	{most - 1, -1, most - 2, most, api.OK, api.OK},
	{most, most, 0, 0, api.ErrOverflow, api.OK},
	{most, least, -1, 0, api.OK, api.ErrOverflow},
	{least, 0, least, least, api.OK, api.OK},
	{least, -1, 0, least + 1, api.ErrOverflow, api.OK},
	{least + 1, -1, least, least + 2, api.OK, api.OK},
	{least, 1, least + 1, 0, api.OK, api.ErrOverflow},
	{least + 1, 1, least + 2, least, api.OK, api.OK},
	{least, least, 0, 0, api.ErrOverflow, api.OK},
	{least, most, -1, 0, api.OK, api.ErrOverflow},
	{0, least, least, 0, api.OK, api.ErrOverflow},
	{-1, least, 0, most, api.ErrOverflow, api.OK},
	{0, most, most, -most, api.OK, api.OK},
	{-1, most, most - 1, least, api.OK, api.OK},
	{-2, most, most - 2, 0, api.OK, api.ErrOverflow},
	{1 << 62, 1 << 62, 0, 0, api.ErrOverflow, api.OK},
	{1<<62 - 1, 1 << 62, most, -1, api.OK, api.OK},
	{-1 << 62, -1 << 62, least, 0, api.OK, api.OK},
	{-1 << 62, -1<<62 - 1, 0, 1, api.ErrOverflow, api.OK},
	{-1 << 62, 1 << 62, 0, least, api.OK, api.OK},
	{1 << 62, -1 << 62, 0, 0, api.OK, api.ErrOverflow},
}

// holdJoined does one of Plus and Minus to grids with these numbers, and holds what
// it answers, and both grids behind it, against what is wanted.
func holdJoined(t *testing.T, call func(g, h *grid.Grid) api.Errno, rows, width int, a, b, want []int64, fails api.Errno) {
	t.Helper()
	g, h := of(t, rows, width, a...), of(t, rows, width, b...)
	if e := call(g, h); e != fails {
		t.Errorf("%v and %v: %v, not %v", a, b, e, fails)
	}
	if fails != api.OK {
		want = a
	}
	hold(t, g, rows, width, want)
	hold(t, h, rows, width, b)
}

func TestJoinedNamed(t *testing.T) {
	for _, x := range named {
		holdJoined(t, (*grid.Grid).Plus, 1, 1, []int64{x.a}, []int64{x.b}, []int64{x.plus}, x.over)
		holdJoined(t, (*grid.Grid).Minus, 1, 1, []int64{x.a}, []int64{x.b}, []int64{x.minus}, x.under)
	}
}

// One cell that does not fit is enough, wherever it is, and leaves all as they are.
func TestOneCellDoesNotFit(t *testing.T) {
	for _, size := range []struct{ rows, width int }{{2, 3}, {8, 1}, {1, 128}, {8, 128}} {
		for i := range size.rows * size.width {
			g, h := grid.New(size.rows, size.width), grid.New(size.rows, size.width)
			a, b := slices.Repeat([]int64{10}, size.rows*size.width), slices.Repeat([]int64{1}, size.rows*size.width)
			a[i] = most
			fill(t, g, a)
			fill(t, h, b)
			if e := g.Plus(h); e != api.ErrOverflow || !slices.Equal(g.Cells(), a) || !slices.Equal(h.Cells(), b) {
				t.Fatalf("Plus, place %d of %v: %v, %v", i, size, e, g.Cells())
			}
			row, col := i/size.width, i%size.width
			a[i] = least
			g.Put(row, col, least)
			if e := g.Minus(h); e != api.ErrOverflow || !slices.Equal(g.Cells(), a) || !slices.Equal(h.Cells(), b) {
				t.Fatalf("Minus, place %d of %v: %v, %v", i, size, e, g.Cells())
			}
			// One less, and it just fits.
			h.Put(row, col, 0)
			if e := g.Minus(h); e != api.OK || g.At(row, col) != least || g.At(0, 0) == 10 {
				t.Fatalf("Minus of 0, place %d of %v: %v, %v", i, size, e, g.Cells())
			}
		}
	}
}

func TestManyCellsDoNotFit(t *testing.T) {
	a, b := []int64{most, 1, most, least}, []int64{1, 1, most, -1}
	holdJoined(t, (*grid.Grid).Plus, 2, 2, a, b, nil, api.ErrOverflow)
	holdJoined(t, (*grid.Grid).Minus, 2, 2, a, []int64{-1, 1, least, 1}, nil, api.ErrOverflow)
	holdJoined(t, (*grid.Grid).Minus, 2, 2, a, b, []int64{most - 1, 0, 0, least + 1}, api.OK)
}

// An overflow of one cell is not made good by another one.
func TestCellsAreOnTheirOwn(t *testing.T) {
	holdJoined(t, (*grid.Grid).Plus, 1, 2, []int64{most, -5}, []int64{1, -5}, nil, api.ErrOverflow)
	holdJoined(t, (*grid.Grid).Plus, 2, 1, []int64{-5, most}, []int64{-5, 1}, nil, api.ErrOverflow)
	holdJoined(t, (*grid.Grid).Plus, 2, 3, []int64{1, 2, 3, 4, 5, 6}, []int64{10, 20, 30, 40, 50, 60}, []int64{11, 22, 33, 44, 55, 66}, api.OK)
	holdJoined(t, (*grid.Grid).Minus, 2, 3, []int64{1, 2, 3, 4, 5, 6}, []int64{10, 20, 30, 40, 50, 60}, []int64{-9, -18, -27, -36, -45, -54}, api.OK)
}

func TestNil(t *testing.T) {
	for _, x := range sizes {
		l := strewn.Signed(3, x.rows*x.width, 0)
		g := grid.New(x.askedRows, x.askedWidth)
		fill(t, g, l)
		if e := g.Plus(nil); e != api.ErrIncompatible {
			t.Errorf("Plus of nil is %v", e)
		}
		if e := g.Minus(nil); e != api.ErrIncompatible {
			t.Errorf("Minus of nil is %v", e)
		}
		hold(t, g, x.rows, x.width, l)
	}
}

// Grids of unlike rows or columns are not put together, also if they have as many
// cells, or none; those that came to be alike are.
func TestUnlikeSizes(t *testing.T) {
	for _, x := range sizes {
		for _, y := range sizes {
			// Each sum goes beyond what fits, and so does each difference, once the
			// sign is turned: an error of the sizes comes ahead of that one.
			a, b := slices.Repeat([]int64{most}, x.rows*x.width), slices.Repeat([]int64{1}, y.rows*y.width)
			g, h := grid.New(x.askedRows, x.askedWidth), grid.New(y.askedRows, y.askedWidth)
			fill(t, g, a)
			fill(t, h, b)
			want := api.ErrIncompatible
			if x.rows == y.rows && x.width == y.width {
				want = api.OK
				if len(a) > 0 {
					want = api.ErrOverflow
				}
			}
			if e := g.Plus(h); e != want || !slices.Equal(g.Cells(), a) {
				t.Errorf("Plus of sizes %v and %v: %v, not %v", x, y, e, want)
			}
			fill(t, h, slices.Repeat([]int64{-1}, len(b)))
			if e := g.Minus(h); e != want || !slices.Equal(g.Cells(), a) {
				t.Errorf("Minus of sizes %v and %v: %v, not %v", x, y, e, want)
			}
			hold(t, h, y.rows, y.width, slices.Repeat([]int64{-1}, len(b)))
		}
	}
}

func TestWithItself(t *testing.T) {
	for _, x := range []struct{ l, plus []int64 }{
		{[]int64{0, 5, -7, 1}, []int64{0, 10, -14, 2}},
		{[]int64{1<<62 - 1, -1 << 62, 3, -3}, []int64{most - 1, least, 6, -6}},
		{[]int64{3, 4, 5, 1 << 62}, nil},
		{[]int64{-1<<62 - 1, 3, 4, 5}, nil},
		{[]int64{3, 4, most, least}, nil},
	} {
		g, want, fails := of(t, 2, 2, x.l...), x.plus, api.OK
		if want == nil {
			want, fails = x.l, api.ErrOverflow
		}
		if e := g.Plus(g); e != fails {
			t.Errorf("%v with itself: %v, not %v", x.l, e, fails)
		}
		hold(t, g, 2, 2, want)
		if e := g.Minus(g); e != api.OK {
			t.Errorf("%v without itself: %v", want, e)
		}
		hold(t, g, 2, 2, make([]int64, 4))
	}
}

// What is put together has nothing to do with each other later on.
func TestNothingKept(t *testing.T) {
	g, h := grid.New(2, 2), of(t, 2, 2, 1, 2, 3, 4)
	if e := g.Plus(h); e != api.OK {
		t.Error(e)
	}
	h.Put(0, 0, 77)
	g.Put(1, 1, 88)
	hold(t, g, 2, 2, []int64{1, 2, 3, 88})
	hold(t, h, 2, 2, []int64{77, 2, 3, 4})
}

// joined tells what the numbers come to by another way than the package does, and
// whether each one fits.
func joined(call func(z, x, y *big.Int) *big.Int, a, b []int64) ([]int64, bool) {
	all := make([]int64, len(a))
	for i := range a {
		n := call(new(big.Int), big.NewInt(a[i]), big.NewInt(b[i]))
		if !n.IsInt64() {
			return nil, false
		}
		all[i] = n.Int64()
	}
	return all, true
}

func TestJoinedOfAll(t *testing.T) {
	fits := map[bool]int{}
	for from := range 200 {
		for _, x := range sizes {
			if x.askedRows != x.rows || x.askedWidth != x.width || x.rows*x.width > 9 {
				continue
			}
			a := strewn.Signed(from, x.rows*x.width, uint(from%4))
			b := strewn.Signed(from+50, x.rows*x.width, uint(from/4%4))
			for _, way := range []struct {
				call  func(g, h *grid.Grid) api.Errno
				whole func(z, x, y *big.Int) *big.Int
			}{
				{(*grid.Grid).Plus, (*big.Int).Add},
				{(*grid.Grid).Minus, (*big.Int).Sub},
			} {
				want, ok := joined(way.whole, a, b)
				fits[ok]++
				fails := api.OK
				if !ok {
					fails = api.ErrOverflow
				}
				holdJoined(t, way.call, x.rows, x.width, a, b, want, fails)
			}
		}
	}
	if fits[true] < 100 || fits[false] < 100 {
		t.Errorf("too few that fit, or do not: %v", fits)
	}
}

// The chapter's section "What follows".
func TestWhatFollows(t *testing.T) {
	for _, x := range sizes {
		for from := range 4 {
			a, b := strewn.Signed(from, x.rows*x.width, 1), strewn.Signed(from+9, x.rows*x.width, 1)
			g, h := grid.New(x.askedRows, x.askedWidth), grid.New(x.askedRows, x.askedWidth)
			fill(t, g, a)
			fill(t, h, b)
			if e := g.Plus(h); e != api.OK {
				t.Errorf("Plus: %v", e)
			}
			if len(a) > 0 && slices.Equal(g.Cells(), a) {
				t.Error("nothing was added")
			}
			if e := g.Minus(h); e != api.OK {
				t.Errorf("Minus: %v", e)
			}
			hold(t, g, x.rows, x.width, a)
			if e := g.Minus(h); e != api.OK {
				t.Errorf("Minus: %v", e)
			}
			if e := g.Plus(h); e != api.OK {
				t.Errorf("Plus: %v", e)
			}
			hold(t, g, x.rows, x.width, a)
			hold(t, h, x.rows, x.width, b)
		}
	}
}
