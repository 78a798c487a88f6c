package linear_test

import (
	"math"
	"math/big"
	"slices"
	"testing"

	"gauger/api"
	"gauger/columns"
	"gauger/grid"
	"gauger/linear"
	"gauger/strewn"
)

const (
	lowest  = math.MinInt64
	highest = math.MaxInt64
)

// hold holds the cells against these numbers.
func hold(t *testing.T, g *grid.Grid, want []int64) {
	t.Helper()
	if got := g.Cells(); !slices.Equal(got, want) {
		t.Errorf("the cells of %d rows of %d columns are %v, not %v", g.Rows(), g.Width(), got, want)
	}
}

// holdTold holds all that is told of the cells that the columns name against their
// numbers; the least and the middle one are told by another way than the package does.
func holdTold(t *testing.T, g *grid.Grid, cols []int, want []int64) {
	t.Helper()
	if l, e := linear.Read(g, cols); e != api.OK || !slices.Equal(l, want) {
		t.Errorf("Read of %v: %v, %v, not %v", cols, l, e, want)
	}
	ordered := slices.Sorted(slices.Values(want))
	if n, e := linear.Least(g, cols); e != api.OK || n != ordered[0] {
		t.Errorf("Least of %v of %v: %d, %v, not %d", cols, want, n, e, ordered[0])
	}
	if n, e := linear.Middle(g, cols); e != api.OK || n != ordered[(len(ordered)-1)/2] {
		t.Errorf("Middle of %v of %v: %d, %v, not %d", cols, want, n, e, ordered[(len(ordered)-1)/2])
	}
}

// holdArg holds every call with columns that do not meet the grid against ErrArg.
func holdArg(t *testing.T, g *grid.Grid, cols []int) {
	t.Helper()
	for _, d := range []int64{0, 1, -1, highest, lowest} {
		if e := linear.Change(g, cols, d); e != api.ErrArg {
			t.Errorf("Change of %v by %d: %v", cols, d, e)
		}
	}
	if l, e := linear.Read(g, cols); len(l) != 0 || e != api.ErrArg {
		t.Errorf("Read of %v: %v, %v", cols, l, e)
	}
	if n, e := linear.Least(g, cols); n != 0 || e != api.ErrArg {
		t.Errorf("Least of %v: %d, %v", cols, n, e)
	}
	if n, e := linear.Middle(g, cols); n != 0 || e != api.ErrArg {
		t.Errorf("Middle of %v: %d, %v", cols, n, e)
	}
}

// The chapter's example.
func TestExample(t *testing.T) {
	g := grid.New(2, 3)
	if e := linear.Change(g, []int{0, 1}, 5); e != api.OK {
		t.Error(e)
	}
	if e := linear.Change(g, []int{0, 2}, 7); e != api.OK {
		t.Error(e)
	}
	hold(t, g, []int64{12, 0, 0, 0, 5, 7})
	if l, e := linear.Read(g, []int{0, 1}); !slices.Equal(l, []int64{12, 5}) || e != api.OK {
		t.Errorf("Read: %v, %v", l, e)
	}
	if n, e := linear.Least(g, []int{0, 1}); n != 5 || e != api.OK {
		t.Errorf("Least: %d, %v", n, e)
	}
	if n, e := linear.Middle(g, []int{0, 1}); n != 5 || e != api.OK {
		t.Errorf("Middle: %d, %v", n, e)
	}
}

func TestNoGrid(t *testing.T) {
	holdArg(t, nil, nil)
	holdArg(t, nil, []int{})
	for count := range 10 {
		holdArg(t, nil, make([]int, count))
	}
	holdArg(t, nil, []int{-1})
}

func TestNoRowsOrNoColumns(t *testing.T) {
	for _, x := range columns.Bare() {
		g := grid.New(x.Rows, x.Width)
		for _, cols := range append(columns.Astray(x.Rows, x.Width), []int{}, make([]int, x.Rows)) {
			holdArg(t, g, cols)
		}
		hold(t, g, nil)
	}
}

// Of cells that any number would bring beyond what fits, and none of which is 0:
// columns astray come ahead of sums that do not fit, and all cells stay.
func TestColumnsAstray(t *testing.T) {
	for _, x := range columns.Sizes() {
		l := slices.Repeat([]int64{highest, lowest}, x.Rows*x.Width)[:x.Rows*x.Width]
		g := columns.Filled(x.Rows, x.Width, l...)
		for _, cols := range columns.Astray(x.Rows, x.Width) {
			holdArg(t, g, cols)
		}
		hold(t, g, l)
	}
}

func TestArgAheadOfOverflow(t *testing.T) {
	g := columns.Filled(3, 2, highest, highest, highest, highest, highest, highest)
	for _, cols := range [][]int{{0, 0, -1}, {0, 0, 2}, {-1, 0, 0}, {2, 1, 1}, {1, 1}, {0, 1, 0, 1}, nil} {
		if e := linear.Change(g, cols, 1); e != api.ErrArg {
			t.Errorf("Change of %v: %v", cols, e)
		}
	}
	if e := linear.Change(g, []int{1, 0, 1}, 1); e != api.ErrOverflow {
		t.Errorf("Change: %v", e)
	}
	hold(t, g, slices.Repeat([]int64{highest}, 6))
}

// Every cell of its own: the one that each row's column names, and no other, has its sum.
func TestChangeOfEachCell(t *testing.T) {
	for _, x := range columns.Sizes() {
		for _, cols := range columns.Meeting(x.Rows, x.Width) {
			for _, d := range []int64{5, -7, 0, highest, lowest} {
				g, want := grid.New(x.Rows, x.Width), make([]int64, x.Rows*x.Width)
				for row, col := range cols {
					want[row*x.Width+col] = d
				}
				if e := linear.Change(g, cols, d); e != api.OK {
					t.Errorf("Change of %v by %d: %v", cols, d, e)
				}
				hold(t, g, want)
				holdTold(t, g, cols, slices.Repeat([]int64{d}, x.Rows))
			}
		}
	}
}

// The last column and the one behind it, 0 and the one just below, in each row.
func TestEdgesOfColumns(t *testing.T) {
	g := columns.Filled(3, 4, 1, 2, 3, 4, 5, 6, 7, 8, 9, 10, 11, 12)
	for _, x := range []struct {
		cols        []int
		want        []int64
		least, half int64
	}{
		{[]int{0, 0, 0}, []int64{1, 5, 9}, 1, 5},
		{[]int{3, 3, 3}, []int64{4, 8, 12}, 4, 8},
		{[]int{3, 0, 0}, []int64{4, 5, 9}, 4, 5},
		{[]int{0, 3, 0}, []int64{1, 8, 9}, 1, 8},
		{[]int{0, 0, 3}, []int64{1, 5, 12}, 1, 5},
	} {
		l, e := linear.Read(g, x.cols)
		n, f := linear.Least(g, x.cols)
		m, h := linear.Middle(g, x.cols)
		if !slices.Equal(l, x.want) || n != x.least || m != x.half || e != api.OK || f != api.OK || h != api.OK {
			t.Errorf("%v: %v, %d, %d, and %v, %v, %v", x.cols, l, n, m, e, f, h)
		}
	}
	for _, cols := range [][]int{{-1, 0, 0}, {0, -1, 0}, {0, 0, -1}, {4, 0, 0}, {0, 4, 0}, {0, 0, 4}, {4, 4, 4}, {-1, -1, -1}, {4, -1, 0}, {-1, 1, 4}} {
		holdArg(t, g, cols)
	}
	hold(t, g, []int64{1, 2, 3, 4, 5, 6, 7, 8, 9, 10, 11, 12})
}

// edges has a cell's number, what is added to it, and their sum, if it fits.
var edges = []struct {
	n, d, sum int64
	fits      bool
}{
	{0, 0, 0, true},
	{5, 3, 8, true},
	{5, -8, -3, true},
	{highest, 0, highest, true},
	{highest, 1, 0, false},
	{highest - 1, 1, highest, true},
	{highest - 1, 2, 0, false},
	{highest, -1, highest - 1, true},
	{highest, highest, 0, false},
	{highest, lowest, -1, true},
	{0, highest, highest, true},
	{1, highest, 0, false},
	{-1, highest, highest - 1, true},
	{lowest, 0, lowest, true},
	{lowest, -1, 0, false},
	{lowest + 1, -1, lowest, true},
	{lowest + 1, -2, 0, false},
	{lowest, 1, lowest + 1, true},
	{lowest, lowest, 0, false},
	{lowest, highest, -1, true},
	{0, lowest, lowest, true},
	{-1, lowest, 0, false},
	{1, lowest, lowest + 1, true},
	{1 << 62, 1 << 62, 0, false},
	{1<<62 - 1, 1 << 62, highest, true},
	{-1 << 62, -1 << 62, lowest, true},
	{-1 << 62, -1<<62 - 1, 0, false},
}

// Each edge in each row alone, while the others have room enough, in the first and the
// last one at once, and in all rows.
func TestChangeAtTheEdges(t *testing.T) {
	for _, size := range columns.Sizes() {
		last := size.Rows - 1
		places := [][]int{{0, last}}
		var every []int
		for row := range size.Rows {
			places = append(places, []int{row})
			every = append(every, row)
		}
		for _, rows := range append(places, every) {
			for i, x := range edges {
				holdEdge(t, size.Rows, size.Width, rows, i, x.n, x.d, x.fits)
			}
		}
	}
}

// holdEdge changes a grid whose named cells have n in these rows, and a number with
// room enough in the others, by d, and holds its cells behind it against the sums, or,
// if those do not fit, against what they were.
func holdEdge(t *testing.T, rows, width int, at []int, turn int, n, d int64, fits bool) {
	t.Helper()
	all := columns.Meeting(rows, width)
	cols := all[turn%len(all)]
	// Cells that no column names may have any number.
	before := slices.Repeat([]int64{highest, lowest}, rows*width)[:rows*width]
	room := int64(3)
	if d < 0 {
		room = -3
	}
	for row, col := range cols {
		before[row*width+col] = room - d
	}
	for _, row := range at {
		before[row*width+cols[row]] = n
	}
	want, fails := slices.Clone(before), api.ErrOverflow
	if fits {
		fails = api.OK
		for row, col := range cols {
			want[row*width+col] += d
		}
	}
	g := columns.Filled(rows, width, before...)
	if e := linear.Change(g, cols, d); e != fails {
		t.Errorf("%d by %d in rows %v of %d: %v, not %v", n, d, at, rows, e, fails)
	}
	hold(t, g, want)
}

// One cell, so that the sum stands there as the table says it.
func TestChangeNamed(t *testing.T) {
	for _, x := range edges {
		g, want, fails := columns.Filled(1, 1, x.n), x.sum, api.OK
		if !x.fits {
			want, fails = x.n, api.ErrOverflow
		}
		if e := linear.Change(g, []int{0}, x.d); e != fails {
			t.Errorf("%d by %d: %v, not %v", x.n, x.d, e, fails)
		}
		hold(t, g, []int64{want})
	}
}

// Rows that fit stay as they were, if one ahead of them, behind them, or between them
// does not; and one that has room does not make good one that has none.
func TestOverflowLeavesAll(t *testing.T) {
	l := []int64{1, highest, lowest, 2, 3, highest, lowest, 4}
	g := columns.Filled(4, 2, l...)
	for _, x := range []struct {
		cols []int
		d    int64
	}{
		{[]int{1, 1, 0, 1}, 1},
		{[]int{0, 1, 1, 1}, 1},
		{[]int{1, 1, 1, 1}, 1},
		{[]int{0, 0, 0, 1}, -1},
		{[]int{0, 1, 0, 0}, -1},
		{[]int{0, 0, 0, 0}, -1},
		{[]int{1, 0, 1, 0}, highest},
		{[]int{1, 0, 1, 0}, lowest},
	} {
		if e := linear.Change(g, x.cols, x.d); e != api.ErrOverflow {
			t.Errorf("Change of %v by %d: %v", x.cols, x.d, e)
		}
		hold(t, g, l)
	}
	// To the other side, each of these cells has room.
	if e := linear.Change(g, []int{1, 1, 1, 1}, -1); e != api.OK {
		t.Error(e)
	}
	if e := linear.Change(g, []int{0, 0, 0, 0}, 1); e != api.OK {
		t.Error(e)
	}
	hold(t, g, []int64{2, highest - 1, lowest + 1, 1, 4, highest - 1, lowest + 1, 3})
}

func TestReadOfAll(t *testing.T) {
	for _, x := range columns.Sizes() {
		for from := range 4 {
			l := strewn.Signed(from, x.Rows*x.Width, uint(from*20))
			g := columns.Filled(x.Rows, x.Width, l...)
			for _, cols := range columns.Meeting(x.Rows, x.Width) {
				holdTold(t, g, cols, columns.Named(l, cols, x.Width))
			}
			hold(t, g, l)
		}
	}
}

// The least and the middle one of numbers in each of their orders, and of many that
// are the same.
func TestLeastAndMiddleNamed(t *testing.T) {
	for _, x := range []struct {
		l             []int64
		least, middle int64
	}{
		{[]int64{7}, 7, 7},
		{[]int64{lowest}, lowest, lowest},
		{[]int64{highest}, highest, highest},
		{[]int64{1, 2}, 1, 1},
		{[]int64{2, 1}, 1, 1},
		{[]int64{-1, -2}, -2, -2},
		{[]int64{highest, lowest}, lowest, lowest},
		{[]int64{5, 1, 3}, 1, 3},
		{[]int64{3, 5, 1}, 1, 3},
		{[]int64{1, 3, 5}, 1, 3},
		{[]int64{5, 1, 3, 9}, 1, 3},
		{[]int64{9, 5, 3, 1}, 1, 3},
		{[]int64{0, 0, -4, 0}, -4, 0},
		{[]int64{4, 4, 4, 4}, 4, 4},
		{[]int64{highest, lowest, 0, -1}, lowest, -1},
		{[]int64{8, 7, 6, 5, 4, 3, 2}, 2, 5},
		{[]int64{8, 7, 6, 5, 4, 3, 2, 1}, 1, 4},
		{[]int64{1, -2, 3, -4, 5, -6, 7, -8}, -8, -2},
	} {
		g, cols := columns.Filled(len(x.l), 1, x.l...), make([]int, len(x.l))
		n, e := linear.Least(g, cols)
		m, f := linear.Middle(g, cols)
		if n != x.least || m != x.middle || e != api.OK || f != api.OK {
			t.Errorf("%v: %d, %d, and %v, %v, not %d, %d", x.l, n, m, e, f, x.least, x.middle)
		}
		holdTold(t, g, cols, x.l)
	}
}

// The columns of all rows may be the same; the rows are not.
func TestSameColumnInAllRows(t *testing.T) {
	g := grid.New(8, 3)
	for i, d := range []int64{4, -9, 11} {
		if e := linear.Change(g, slices.Repeat([]int{i}, 8), d); e != api.OK {
			t.Error(e)
		}
	}
	hold(t, g, slices.Repeat([]int64{4, -9, 11}, 8))
	if e := linear.Change(g, slices.Repeat([]int{1}, 8), 2); e != api.OK {
		t.Error(e)
	}
	hold(t, g, slices.Repeat([]int64{4, -7, 11}, 8))
	holdTold(t, g, slices.Repeat([]int{1}, 8), slices.Repeat([]int64{-7}, 8))
}

// What Read told may be written over, and stays when the cells change.
func TestReadIsOfItsOwn(t *testing.T) {
	l, cols := []int64{1, 2, 3, 4, 5, 6}, []int{1, 0, 1}
	g := columns.Filled(3, 2, l...)
	first, _ := linear.Read(g, cols)
	second, _ := linear.Read(g, cols)
	clear(first)
	_ = append(first[:1], 77)
	hold(t, g, l)
	if !slices.Equal(second, []int64{2, 3, 6}) {
		t.Errorf("what was told became %v", second)
	}
	holdTold(t, g, cols, []int64{2, 3, 6})
	if e := linear.Change(g, cols, 10); e != api.OK || !slices.Equal(second, []int64{2, 3, 6}) {
		t.Errorf("%v: what was told became %v", e, second)
	}
	hold(t, g, []int64{1, 12, 13, 4, 5, 16})
	holdTold(t, g, cols, []int64{12, 13, 16})
}

// Columns stay as they were, those that do not meet the grid, too, with what lies
// behind them; and they may be written over.
func TestColumnsStay(t *testing.T) {
	g := columns.Filled(3, 2, highest, 2, 3, 4, 5, 6)
	for _, x := range []struct {
		cols  []int
		fails api.Errno
	}{{[]int{1, 0, 1}, api.OK}, {[]int{0, 0, 1}, api.ErrOverflow}, {[]int{1, 2, 1}, api.ErrArg}} {
		whole := append(slices.Clone(x.cols), 1, -5, 99)
		want, cols := slices.Clone(whole), whole[:3]
		if e := linear.Change(g, cols, 1); e != x.fails {
			t.Errorf("Change of %v: %v, not %v", cols, e, x.fails)
		}
		linear.Read(g, cols)
		linear.Least(g, cols)
		linear.Middle(g, cols)
		if !slices.Equal(whole, want) {
			t.Errorf("%v became %v", want, whole)
		}
		clear(cols)
		hold(t, g, []int64{highest, 3, 4, 4, 5, 7})
	}
}

// Grids that were made apart, and copies, change alone.
func TestMadeApart(t *testing.T) {
	g, h := grid.New(2, 2), grid.New(2, 2)
	if e := linear.Change(g, []int{0, 1}, 5); e != api.OK {
		t.Error(e)
	}
	k := g.Copy()
	if e := linear.Change(g, []int{0, 1}, 1); e != api.OK {
		t.Error(e)
	}
	if e := linear.Change(k, []int{1, 1}, 2); e != api.OK {
		t.Error(e)
	}
	hold(t, g, []int64{6, 0, 0, 6})
	hold(t, h, []int64{0, 0, 0, 0})
	hold(t, k, []int64{5, 2, 0, 7})
}

// changed tells the cells behind a change by whole numbers, and whether all sums fit.
func changed(l []int64, cols []int, width int, d int64) ([]int64, bool) {
	all := slices.Clone(l)
	for row, col := range cols {
		sum := new(big.Int).Add(big.NewInt(l[row*width+col]), big.NewInt(d))
		if !sum.IsInt64() {
			return l, false
		}
		all[row*width+col] = sum.Int64()
	}
	return all, true
}

// Many changes, one behind another, of which some do not fit.
func TestChangeOfAll(t *testing.T) {
	count := map[bool]int{}
	for i, x := range columns.Sizes() {
		g, want := grid.New(x.Rows, x.Width), make([]int64, x.Rows*x.Width)
		all, some := columns.Meeting(x.Rows, x.Width), strewn.Signed(i, 200, uint(i%4))
		for turn, d := range some {
			cols := all[turn%len(all)]
			next, ok := changed(want, cols, x.Width, d)
			fails := api.ErrOverflow
			if ok {
				fails = api.OK
			}
			if e := linear.Change(g, cols, d); e != fails {
				t.Errorf("Change of %v by %d: %v, not %v", cols, d, e, fails)
			}
			count[ok]++
			want = next
			if got := g.Cells(); !slices.Equal(got, want) {
				t.Fatalf("the cells are %v, not %v", got, want)
			}
		}
	}
	if count[true] < 100 || count[false] < 100 {
		t.Errorf("too few that fit, or do not: %v", count)
	}
}

// The chapter's section "What follows": each cell is the sum of all that was added by
// columns that name it, and what was added by some columns, and none of it below 0, is
// never more than Least. What was added is taken away again.
func TestWhatFollows(t *testing.T) {
	for i, x := range columns.Sizes() {
		g, want := grid.New(x.Rows, x.Width), make([]int64, x.Rows*x.Width)
		all := columns.Additions(x.Rows, x.Width, i)
		for _, a := range all {
			if e := linear.Change(g, a.Cols, a.Delta); e != api.OK {
				t.Error(e)
			}
			for row, col := range a.Cols {
				want[row*x.Width+col] += a.Delta
			}
		}
		hold(t, g, want)
		for _, a := range all {
			added := columns.Added(all, a.Cols)
			if n, e := linear.Least(g, a.Cols); e != api.OK || n < added {
				t.Errorf("Least of %v is %d, %v, though %d was added", a.Cols, n, e, added)
			}
		}
		for _, a := range all {
			if e := linear.Change(g, a.Cols, -a.Delta); e != api.OK {
				t.Error(e)
			}
		}
		hold(t, g, make([]int64, x.Rows*x.Width))
	}
}
