package conserve_test

import (
	"math"
	"math/big"
	"slices"
	"testing"

	"gauger/api"
	"gauger/columns"
	"gauger/conserve"
	"gauger/grid"
	"gauger/linear"
	"gauger/strewn"
)

const (
	lowest  = math.MinInt64
	highest = math.MaxInt64
)

// below has numbers by which no cell rises.
var below = []int64{-1, -2, -7, -1 << 32, -1 << 62, -highest, lowest}

// hold holds the cells against these numbers.
func hold(t *testing.T, g *grid.Grid, want []int64) {
	t.Helper()
	if got := g.Cells(); !slices.Equal(got, want) {
		t.Errorf("the cells of %d rows of %d columns are %v, not %v", g.Rows(), g.Width(), got, want)
	}
}

// holdRaise raises the cells that the columns name by d, and holds what it answers,
// and all cells behind it, against what is wanted.
func holdRaise(t *testing.T, g *grid.Grid, cols []int, d int64, fails api.Errno, want ...int64) {
	t.Helper()
	if e := conserve.Raise(g, cols, d); e != fails {
		t.Errorf("Raise of %v by %d: %v, not %v", cols, d, e, fails)
	}
	hold(t, g, want)
}

// holdArg holds raises by columns that do not meet the grid against ErrArg: numbers
// below 0, and sums that do not fit, come behind that.
func holdArg(t *testing.T, g *grid.Grid, cols []int) {
	t.Helper()
	for _, d := range append([]int64{0, 1, highest - 1, highest}, below...) {
		if e := conserve.Raise(g, cols, d); e != api.ErrArg {
			t.Errorf("Raise of %v by %d: %v", cols, d, e)
		}
	}
}

// The chapter's example.
func TestExample(t *testing.T) {
	g := grid.New(2, 3)
	if e := conserve.Raise(g, []int{0, 1}, 5); e != api.OK {
		t.Error(e)
	}
	if e := conserve.Raise(g, []int{0, 2}, 7); e != api.OK {
		t.Error(e)
	}
	hold(t, g, []int64{7, 0, 0, 0, 5, 7})
}

func TestNoGrid(t *testing.T) {
	holdArg(t, nil, nil)
	holdArg(t, nil, []int{-1})
	for count := range 10 {
		holdArg(t, nil, make([]int, count))
	}
}

func TestNoRowsOrNoColumns(t *testing.T) {
	for _, x := range columns.Bare() {
		g := grid.New(x.Rows, x.Width)
		for _, cols := range append(columns.Astray(x.Rows, x.Width), []int{}, make([]int, x.Rows)) {
			holdArg(t, g, cols)
		}
		hold(t, g, nil)
	}
}

// Of cells that each number above 0 would bring beyond what fits, and of cells that
// would rise by any: all stay as they are.
func TestColumnsAstray(t *testing.T) {
	for _, x := range columns.Sizes() {
		count := x.Rows * x.Width
		for _, l := range [][]int64{
			make([]int64, count),
			slices.Repeat([]int64{highest}, count),
			slices.Repeat([]int64{lowest}, count),
			slices.Repeat([]int64{7, -7, highest, lowest}, count)[:count],
		} {
			g := columns.Filled(x.Rows, x.Width, l...)
			for _, cols := range columns.Astray(x.Rows, x.Width) {
				holdArg(t, g, cols)
			}
			hold(t, g, l)
		}
	}
}

// The last column and the one behind it, 0 and the one just below, in each row.
func TestEdgesOfColumns(t *testing.T) {
	for _, x := range []struct {
		cols []int
		want []int64
	}{
		{[]int{0, 0, 0}, []int64{9, 2, 3, 9, 5, 6, 9, 8, 9}},
		{[]int{2, 2, 2}, []int64{1, 2, 11, 4, 5, 11, 7, 8, 11}},
		{[]int{2, 0, 0}, []int64{1, 2, 11, 11, 5, 6, 11, 8, 9}},
		{[]int{0, 2, 0}, []int64{9, 2, 3, 4, 5, 9, 9, 8, 9}},
		{[]int{0, 0, 2}, []int64{9, 2, 3, 9, 5, 6, 7, 8, 9}},
	} {
		g := columns.Filled(3, 3, 1, 2, 3, 4, 5, 6, 7, 8, 9)
		holdRaise(t, g, x.cols, 8, api.OK, x.want...)
	}
	g := columns.Filled(3, 3, 1, 2, 3, 4, 5, 6, 7, 8, 9)
	for _, cols := range [][]int{
		{-1, 0, 0}, {0, -1, 0}, {0, 0, -1}, {3, 0, 0}, {0, 3, 0}, {0, 0, 3}, {-1, -1, -1}, {3, 3, 3}, {3, -1, 0}, {-1, 1, 3},
		{0, 0}, {0, 0, 0, 0}, {}, nil,
	} {
		holdArg(t, g, cols)
	}
	hold(t, g, []int64{1, 2, 3, 4, 5, 6, 7, 8, 9})
}

// Below 0 there is no raise, also where the sum would not fit either; by 0 there is
// one, of which no cell has more.
func TestBelowNought(t *testing.T) {
	for _, x := range columns.Sizes() {
		count := x.Rows * x.Width
		for _, l := range [][]int64{
			make([]int64, count),
			slices.Repeat([]int64{lowest}, count),
			slices.Repeat([]int64{highest}, count),
			slices.Repeat([]int64{lowest, highest, 5, -5}, count)[:count],
			strewn.Signed(count, count, 0),
		} {
			g := columns.Filled(x.Rows, x.Width, l...)
			for _, cols := range columns.Meeting(x.Rows, x.Width) {
				for _, d := range below {
					holdRaise(t, g, cols, d, api.ErrMode, l...)
				}
				holdRaise(t, g, cols, 0, api.OK, l...)
			}
		}
	}
}

func TestErrorsInTheirOrder(t *testing.T) {
	for _, x := range []struct {
		n     int64
		cols  []int
		d     int64
		fails api.Errno
	}{
		{lowest, []int{0, 2}, -1, api.ErrArg},
		{lowest, []int{-1, 0}, lowest, api.ErrArg},
		{lowest, []int{0}, -1, api.ErrArg},
		{highest, []int{2, 0}, 1, api.ErrArg},
		{highest, []int{0, 0, 0}, highest, api.ErrArg},
		{highest, nil, -1, api.ErrArg},
		{highest, []int{0, -1}, 0, api.ErrArg},
		{lowest, []int{0, 1}, -1, api.ErrMode},
		{lowest, []int{0, 1}, lowest, api.ErrMode},
		{-1, []int{1, 1}, lowest, api.ErrMode},
		{highest, []int{1, 0}, -1, api.ErrMode},
		{highest, []int{1, 0}, 1, api.ErrOverflow},
		{1, []int{0, 0}, highest, api.ErrOverflow},
		{highest, []int{0, 1}, 0, api.OK},
		{lowest, []int{0, 1}, 0, api.OK},
	} {
		g := columns.Filled(2, 2, x.n, x.n, x.n, x.n)
		holdRaise(t, g, x.cols, x.d, x.fails, x.n, x.n, x.n, x.n)
	}
}

// edges has the least number of the cells, what it rises by, and their sum, if it fits.
var edges = []struct {
	least, d, sum int64
	fits          bool
}{
	{0, 0, 0, true},
	{0, 1, 1, true},
	{5, 0, 5, true},
	{5, 3, 8, true},
	{-5, 0, -5, true},
	{-5, 3, -2, true},
	{-5, 4, -1, true},
	{-5, 5, 0, true},
	{-5, 6, 1, true},
	{lowest, 0, lowest, true},
	{lowest, 1, lowest + 1, true},
	{lowest, highest, -1, true},
	{lowest + 1, highest, 0, true},
	{-1, highest, highest - 1, true},
	{0, highest, highest, true},
	{1, highest, 0, false},
	{2, highest - 1, 0, false},
	{1, highest - 1, highest, true},
	{highest - 1, 1, highest, true},
	{highest - 1, 2, 0, false},
	{highest, 0, highest, true},
	{highest, 1, 0, false},
	{highest, highest, 0, false},
	{1<<62 - 1, 1 << 62, highest, true},
	{1 << 62, 1 << 62, 0, false},
	{-1 << 62, highest, 1<<62 - 1, true},
}

// others tells numbers, none of which is less than the least one, that cells of other
// rows may have: as much as it, and as the sum, and one less and one more than these,
// with those at the end of what fits. A sum that does not fit goes round here.
func others(least, d int64) []int64 {
	var all []int64
	for _, n := range []int64{least, least + 1, least + d - 1, least + d, least + d + 1, 0, highest - 1, highest} {
		if n >= least {
			all = append(all, n)
		}
	}
	return all
}

// Each edge, with the least number in each row, and all that the others may have.
func TestRaiseAtTheEdges(t *testing.T) {
	for _, size := range columns.Sizes() {
		all := columns.Meeting(size.Rows, size.Width)
		for i, x := range edges {
			some := others(x.least, x.d)
			for row := range size.Rows {
				for turn := range some {
					cols := all[(i+turn)%len(all)]
					numbers := make([]int64, size.Rows)
					for other := range numbers {
						numbers[other] = some[(turn+other)%len(some)]
					}
					numbers[row] = x.least
					holdEdge(t, size, cols, numbers, x.d, x.sum, x.fits)
				}
			}
		}
	}
}

// holdEdge raises by d a grid in which the columns name these numbers, and holds its
// cells behind it against the sum, where they had less, or against what they were.
func holdEdge(t *testing.T, size columns.Size, cols []int, numbers []int64, d, sum int64, fits bool) {
	t.Helper()
	// Cells that no column names may have any number, less than the least one, too.
	count := size.Rows * size.Width
	before := slices.Repeat([]int64{lowest, highest, sum, 0}, count)[:count]
	for row, n := range numbers {
		before[row*size.Width+cols[row]] = n
	}
	want, fails := slices.Clone(before), api.ErrOverflow
	if fits {
		fails = api.OK
		for row, n := range numbers {
			if n < sum {
				want[row*size.Width+cols[row]] = sum
			}
		}
	}
	holdRaise(t, columns.Filled(size.Rows, size.Width, before...), cols, d, fails, want...)
}

// One cell alone has the sum that the table says.
func TestRaiseNamed(t *testing.T) {
	for _, x := range edges {
		g := columns.Filled(1, 1, x.least)
		if x.fits {
			holdRaise(t, g, []int{0}, x.d, api.OK, x.sum)
		} else {
			holdRaise(t, g, []int{0}, x.d, api.ErrOverflow, x.least)
		}
	}
}

// Cells of one less than the sum, of just the sum, and of one more.
func TestAboutTheSum(t *testing.T) {
	for _, x := range []struct {
		d            int64
		before, want []int64
	}{
		{5, []int64{3, 7, 8, 9}, []int64{8, 8, 8, 9}},
		{5, []int64{9, 8, 7, 3}, []int64{9, 8, 8, 8}},
		{5, []int64{3, 3, 3, 3}, []int64{8, 8, 8, 8}},
		{1, []int64{7, 8, 9, 7}, []int64{8, 8, 9, 8}},
		{0, []int64{8, 7, 9, 7}, []int64{8, 7, 9, 7}},
		{4, []int64{-9, -5, -4, -6}, []int64{-5, -5, -4, -5}},
		{9, []int64{-9, 1, 0, -1}, []int64{0, 1, 0, 0}},
		{9, []int64{-1, -10, 0, highest}, []int64{-1, -1, 0, highest}},
		{1, []int64{highest - 1, highest, highest - 1, highest}, []int64{highest, highest, highest, highest}},
		{highest, []int64{highest, 0, 1, highest - 1}, []int64{highest, highest, highest, highest}},
		{highest, []int64{lowest, -1, 0, -2}, []int64{-1, -1, 0, -1}},
		{1, []int64{lowest, lowest, lowest + 1, lowest + 2}, []int64{lowest + 1, lowest + 1, lowest + 1, lowest + 2}},
	} {
		g := columns.Filled(4, 1, x.before...)
		holdRaise(t, g, []int{0, 0, 0, 0}, x.d, api.OK, x.want...)
	}
}

// A sum beyond what fits leaves all cells, those that have more than the sum would be
// if it went round, and those that had room; only the least one's sum counts.
func TestOverflowLeavesAll(t *testing.T) {
	l := []int64{1, highest, 5, highest - 1, highest, 2, 9, highest}
	g := columns.Filled(4, 2, l...)
	for _, x := range []struct {
		cols []int
		d    int64
	}{
		{[]int{0, 0, 0, 0}, highest},
		{[]int{1, 1, 0, 1}, 2},
		{[]int{1, 1, 0, 1}, highest},
		{[]int{1, 0, 1, 0}, highest - 1},
		{[]int{1, 0, 0, 1}, highest - 4},
	} {
		holdRaise(t, g, x.cols, x.d, api.ErrOverflow, l...)
	}
	// The sum of the least one fits, though those of the others would not.
	holdRaise(t, g, []int{1, 1, 0, 1}, 1, api.OK, 1, highest, 5, highest, highest, 2, 9, highest)
	holdRaise(t, g, []int{1, 1, 1, 1}, highest-2, api.OK, 1, highest, 5, highest, highest, highest, 9, highest)
	holdRaise(t, g, []int{1, 1, 0, 1}, 1, api.ErrOverflow, 1, highest, 5, highest, highest, highest, 9, highest)
}

// The columns of all rows may be the same; the rows are not.
func TestSameColumnInAllRows(t *testing.T) {
	g := grid.New(8, 3)
	for i, d := range []int64{4, 0, 11} {
		if e := conserve.Raise(g, slices.Repeat([]int{i}, 8), d); e != api.OK {
			t.Error(e)
		}
	}
	hold(t, g, slices.Repeat([]int64{4, 0, 11}, 8))
	g.Put(3, 1, 1)
	g.Put(5, 1, 9)
	want := slices.Repeat([]int64{4, 2, 11}, 8)
	want[5*3+1] = 9
	holdRaise(t, g, slices.Repeat([]int{1}, 8), 2, api.OK, want...)
}

// In one row a cell has just what was added.
func TestOneRow(t *testing.T) {
	for _, width := range []int{1, 2, 128} {
		g, h := grid.New(1, width), grid.New(1, width)
		for i, n := range strewn.Signed(width, 300, 1) {
			cols := []int{i * 7 % width}
			want := linear.Change(h, cols, max(n, 0))
			holdRaise(t, g, cols, max(n, 0), want, h.Cells()...)
		}
	}
}

// Each row of the most there are may have the least number.
func TestEightRows(t *testing.T) {
	cols := []int{0, 1, 2, 3, 4, 5, 6, 7}
	for row := range 8 {
		g := grid.New(8, 8)
		want := make([]int64, 64)
		for other, col := range cols {
			n := int64(20 + 10*((other+8-row)%8))
			g.Put(other, col, n)
			want[other*8+col] = max(n, 53)
		}
		holdRaise(t, g, cols, 33, api.OK, want...)
	}
}

// Columns stay as they were, whatever is answered, with what lies behind them; and
// they may be written over.
func TestColumnsStay(t *testing.T) {
	g := columns.Filled(3, 2, highest, 2, 9, highest, highest, 6)
	for _, x := range []struct {
		cols  []int
		d     int64
		fails api.Errno
	}{
		{[]int{1, 0, 1}, 1, api.OK},
		{[]int{1, 0, 1}, -1, api.ErrMode},
		{[]int{0, 1, 0}, 1, api.ErrOverflow},
		{[]int{1, 2, 1}, 1, api.ErrArg},
		{[]int{-1, 0, 1}, -1, api.ErrArg},
	} {
		whole := append(slices.Clone(x.cols), 1, -5, 99)
		before, cols := slices.Clone(whole), whole[:3]
		holdRaise(t, g, cols, x.d, x.fails, highest, 3, 9, highest, highest, 6)
		if !slices.Equal(whole, before) {
			t.Errorf("%v became %v", before, whole)
		}
		clear(cols)
		hold(t, g, []int64{highest, 3, 9, highest, highest, 6})
	}
}

// Grids that were made apart, and copies, rise alone.
func TestMadeApart(t *testing.T) {
	g, h := grid.New(2, 2), grid.New(2, 2)
	holdRaise(t, g, []int{0, 1}, 5, api.OK, 5, 0, 0, 5)
	k := g.Copy()
	holdRaise(t, g, []int{0, 1}, 1, api.OK, 6, 0, 0, 6)
	holdRaise(t, k, []int{1, 1}, 7, api.OK, 5, 7, 0, 7)
	hold(t, g, []int64{6, 0, 0, 6})
	hold(t, h, []int64{0, 0, 0, 0})
}

// raised tells the cells behind a raise by whole numbers, and what it answers.
func raised(l []int64, cols []int, width int, d int64) ([]int64, api.Errno) {
	if d < 0 {
		return l, api.ErrMode
	}
	n := new(big.Int).Add(big.NewInt(slices.Min(columns.Named(l, cols, width))), big.NewInt(d))
	if !n.IsInt64() {
		return l, api.ErrOverflow
	}
	all := slices.Clone(l)
	for row, col := range cols {
		if at := row*width + col; big.NewInt(l[at]).Cmp(n) < 0 {
			all[at] = n.Int64()
		}
	}
	return all, api.OK
}

// Many raises of cells below 0 and above it, one behind another, of which some are
// refused, until a change takes the cells down again.
func TestRaiseOfAll(t *testing.T) {
	count := map[api.Errno]int{}
	for i, x := range columns.Sizes() {
		want := strewn.Signed(i, x.Rows*x.Width, uint(i%3))
		g := columns.Filled(x.Rows, x.Width, want...)
		all := columns.Meeting(x.Rows, x.Width)
		for turn, d := range strewn.Signed(i, 400, uint(i%5)) {
			cols := all[turn%len(all)]
			next, fails := raised(want, cols, x.Width, d)
			if e := conserve.Raise(g, cols, d); e != fails {
				t.Errorf("Raise of %v by %d: %v, not %v", cols, d, e, fails)
			}
			count[fails]++
			want = next
			if got := g.Cells(); !slices.Equal(got, want) {
				t.Fatalf("the cells are %v, not %v", got, want)
			}
			if fails == api.ErrOverflow && linear.Change(g, cols, lowest) == api.OK {
				want = g.Cells()
			}
		}
	}
	if count[api.OK] < 200 || count[api.ErrMode] < 200 || count[api.ErrOverflow] < 200 {
		t.Errorf("too few of some answers: %v", count)
	}
}

// least tells Least of the columns, which meet the grid.
func least(t *testing.T, g *grid.Grid, cols []int) int64 {
	t.Helper()
	n, e := linear.Least(g, cols)
	if e != api.OK {
		t.Fatalf("Least of %v: %v", cols, e)
	}
	return n
}

// The chapter's section "What follows": behind a raise Least of its columns is n, and
// no cell has less than it had.
func TestLeastBehindIt(t *testing.T) {
	for i, x := range columns.Sizes() {
		before := strewn.Signed(i, x.Rows*x.Width, 2)
		for turn, cols := range columns.Meeting(x.Rows, x.Width) {
			g := columns.Filled(x.Rows, x.Width, before...)
			d := strewn.Signed(turn, 1, 2)[0] & (1<<61 - 1)
			n := least(t, g, cols) + d
			if e := conserve.Raise(g, cols, d); e != api.OK {
				t.Errorf("Raise of %v by %d: %v", cols, d, e)
			}
			if got := least(t, g, cols); got != n {
				t.Errorf("Least of %v is %d behind a raise by %d, not %d", cols, got, d, n)
			}
			for at, got := range g.Cells() {
				if got < before[at] {
					t.Errorf("the cell %d has %d, and had %d", at, got, before[at])
				}
			}
		}
	}
}

// fed tells a grid that was raised from noughts on by all additions, and one to which
// they were added; on the way no cell of the first one has more than that of the other.
func fed(t *testing.T, x columns.Size, all []columns.Addition) (raised, added *grid.Grid) {
	t.Helper()
	raised, added = grid.New(x.Rows, x.Width), grid.New(x.Rows, x.Width)
	for _, a := range all {
		if e := conserve.Raise(raised, a.Cols, a.Delta); e != api.OK {
			t.Errorf("Raise: %v", e)
		}
		if e := linear.Change(added, a.Cols, a.Delta); e != api.OK {
			t.Errorf("Change: %v", e)
		}
		most := added.Cells()
		for at, n := range raised.Cells() {
			if n > most[at] {
				t.Errorf("the cell %d was raised to %d, and %d was added to it", at, n, most[at])
			}
		}
	}
	return raised, added
}

// tally counts where what is told is more than what it is held against.
type tally struct {
	places, overRaised, underAdded int
}

// holdBetween holds Least of what was raised against what was raised by each of the
// columns, and against Least of what was added.
func holdBetween(t *testing.T, g, h *grid.Grid, all []columns.Addition, seen *tally) {
	t.Helper()
	for _, a := range all {
		by, told, most := columns.Added(all, a.Cols), least(t, g, a.Cols), least(t, h, a.Cols)
		if told < by || told > most {
			t.Errorf("Least of %v is %d, though %d was raised, and would be %d, if all had been added", a.Cols, told, by, most)
		}
		seen.places++
		if told > by {
			seen.overRaised++
		}
		if told < most {
			seen.underAdded++
		}
	}
}

// The chapter's section "What follows": of raises from noughts on, and of the sum of
// two such grids.
func TestFromNoughtsOn(t *testing.T) {
	var one, both tally
	for i, x := range columns.Sizes() {
		first, second := columns.Additions(x.Rows, x.Width, i), columns.Additions(x.Rows, x.Width, i+40)[9:]
		// The other way round, so that cells rise in another order.
		slices.Reverse(second)
		g, h := fed(t, x, first)
		k, m := fed(t, x, second)
		holdBetween(t, g, h, first, &one)
		holdBetween(t, k, m, second, &one)
		if e := g.Plus(k); e != api.OK {
			t.Errorf("Plus: %v", e)
		}
		if e := h.Plus(m); e != api.OK {
			t.Errorf("Plus: %v", e)
		}
		holdBetween(t, g, h, slices.Concat(first, second), &both)
	}
	for _, x := range []tally{one, both} {
		if x.overRaised < 50 || x.underAdded < 50 {
			t.Errorf("too few places where the three are unlike: %+v", x)
		}
	}
}
