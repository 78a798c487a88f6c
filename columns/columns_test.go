package columns_test

import (
	"slices"
	"testing"

	"gauger/columns"
	"gauger/strewn"
)

// meet tells by the words of chapter 8 whether the columns meet a grid of so many
// rows and columns.
func meet(x columns.Size, cols []int) bool {
	astray := func(col int) bool { return col < 0 || col > x.Width-1 }
	return x.Rows > 0 && len(cols) == x.Rows && !slices.ContainsFunc(cols, astray)
}

func TestSizes(t *testing.T) {
	for _, x := range columns.Sizes() {
		if x.Rows < 1 || x.Rows > 8 || x.Width < 1 || x.Width > 128 {
			t.Errorf("%v is the size of no grid with cells", x)
		}
	}
	for _, x := range columns.Bare() {
		if x.Rows < 0 || x.Rows > 8 || x.Width < 0 || x.Width > 128 || x.Rows*x.Width != 0 {
			t.Errorf("%v is the size of no grid without cells", x)
		}
	}
	for _, x := range []columns.Size{{Rows: 1, Width: 1}, {Rows: 8, Width: 128}} {
		if !slices.Contains(columns.Sizes(), x) {
			t.Errorf("%v is not tried", x)
		}
	}
}

func TestMeeting(t *testing.T) {
	for _, x := range columns.Sizes() {
		all := columns.Meeting(x.Rows, x.Width)
		for _, cols := range all {
			if !meet(x, cols) {
				t.Errorf("%v does not meet %v", cols, x)
			}
		}
		for row := range x.Rows {
			for _, col := range []int{0, x.Width - 1} {
				if !slices.ContainsFunc(all, func(cols []int) bool { return cols[row] == col }) {
					t.Errorf("column %d of row %d of %v is not tried", col, row, x)
				}
			}
		}
	}
}

func TestAstray(t *testing.T) {
	for _, x := range slices.Concat(columns.Sizes(), columns.Bare()) {
		all := columns.Astray(x.Rows, x.Width)
		for _, cols := range all {
			if meet(x, cols) {
				t.Errorf("%v meets %v", cols, x)
			}
		}
		for row := range x.Rows {
			for _, col := range []int{-1, x.Width} {
				if !slices.ContainsFunc(all, func(cols []int) bool { return len(cols) == x.Rows && cols[row] == col }) {
					t.Errorf("column %d of row %d of %v is not tried", col, row, x)
				}
			}
		}
		for _, count := range []int{x.Rows - 1, x.Rows + 1} {
			if count >= 0 && !slices.ContainsFunc(all, func(cols []int) bool { return len(cols) == count }) {
				t.Errorf("%d columns for %v are not tried", count, x)
			}
		}
	}
}

func TestAdditions(t *testing.T) {
	for from, x := range columns.Sizes() {
		// As numbers without a sign, so that a sum beyond 2^63 is seen.
		sum, again := uint64(0), 0
		all := columns.Additions(x.Rows, x.Width, from)
		for i, a := range all {
			if !meet(x, a.Cols) || a.Delta < 0 || a.Delta >= 1<<55 {
				t.Errorf("%v: %d is added by %v", x, a.Delta, a.Cols)
			}
			sum += uint64(a.Delta)
			for _, b := range all[:i] {
				if slices.Equal(a.Cols, b.Cols) {
					again++
				}
			}
		}
		if len(all) > 1<<8 || sum >= 1<<63 || again == 0 {
			t.Errorf("%v: %d additions of %d together, %d by columns that come again", x, len(all), sum, again)
		}
	}
}

func TestAdded(t *testing.T) {
	all := []columns.Addition{
		{Cols: []int{0, 1}, Delta: 5}, {Cols: []int{0, 2}, Delta: 7}, {Cols: []int{0, 1}, Delta: 11}, {Cols: []int{0}, Delta: 13},
	}
	for _, x := range []struct {
		cols []int
		sum  int64
	}{{[]int{0, 1}, 16}, {[]int{0, 2}, 7}, {[]int{0}, 13}, {[]int{1, 0}, 0}, {nil, 0}} {
		if got := columns.Added(all, x.cols); got != x.sum {
			t.Errorf("by %v %d is added, not %d", x.cols, got, x.sum)
		}
	}
}

func TestFilledAndNamed(t *testing.T) {
	for _, x := range slices.Concat(columns.Sizes(), columns.Bare()) {
		l := strewn.Signed(0, x.Rows*x.Width, 0)
		g := columns.Filled(x.Rows, x.Width, l...)
		if g.Rows() != x.Rows || g.Width() != x.Width || !slices.Equal(g.Cells(), l) {
			t.Errorf("%v: %d rows of %d columns, %v, not %v", x, g.Rows(), g.Width(), g.Cells(), l)
		}
	}
	l := []int64{1, 2, 3, 4, 5, 6}
	if got := columns.Named(l, []int{2, 0}, 3); !slices.Equal(got, []int64{3, 4}) {
		t.Errorf("the columns 2 and 0 name %v", got)
	}
	if got := columns.Named(l, []int{1, 0, 1}, 2); !slices.Equal(got, []int64{2, 3, 6}) {
		t.Errorf("the columns 1, 0 and 1 name %v", got)
	}
}
