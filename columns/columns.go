// Package columns has the grids that the layers' tests try, and the columns that meet
// them, or do not.
package columns

import (
	"math"
	"slices"

	"gauger/grid"
	"gauger/strewn"
)

// Size is how many rows and columns a grid has.
type Size struct {
	Rows, Width int
}

// Sizes tells the sizes of some grids that columns can meet.
func Sizes() []Size {
	return []Size{
		{1, 1}, {1, 2}, {1, 6}, {1, 128},
		{2, 1}, {2, 2}, {2, 3}, {3, 2}, {3, 3},
		{4, 5}, {5, 4}, {7, 127}, {8, 1}, {8, 2}, {8, 128},
	}
}

// Bare tells the sizes of some grids without a cell, which no columns meet.
func Bare() []Size {
	return []Size{
		{0, 0}, {0, 1}, {0, 3}, {0, 128}, {1, 0}, {2, 0}, {8, 0},
	}
}

// nowhere tells columns that a row of so many has not: the first ones are just below
// 0, and just behind the last one.
func nowhere(width int) []int {
	return []int{
		-1, width, -2, width + 1, -width - 1, 2*width + 1, 128, 129, -128, 1 << 32, -1 << 32, 1<<32 - 1,
		1 << 62, math.MaxInt - 1, math.MaxInt, math.MinInt + 1, math.MinInt,
	}
}

// Astray tells rows of numbers that do not meet a grid of so many rows and columns:
// none, too few, too many, and those with one number, or all, where no column is.
func Astray(rows, width int) [][]int {
	var all [][]int
	for _, count := range []int{0, 1, 2, 7, 8, 9, rows - 1, rows + 1, 2 * rows, rows + 256, 1000} {
		if count != rows && count >= 0 {
			all = append(all, make([]int, count), slices.Repeat([]int{max(width-1, 0)}, count))
		}
	}
	all = append(all, nil)
	for _, col := range nowhere(width) {
		all = append(all, slices.Repeat([]int{col}, rows))
		for row := range rows {
			one := slices.Repeat([]int{max(width-1, 0)}, rows)
			one[row] = col
			other := make([]int, rows)
			other[row] = col
			all = append(all, one, other)
		}
	}
	return all
}

// Meeting tells rows of numbers that meet a grid of so many rows and columns, at least
// one of each: the same column in all rows, the first and the last one by turns, all
// in turn from either side, and strewn ones.
func Meeting(rows, width int) [][]int {
	var all [][]int
	for _, col := range []int{0, width - 1, width / 2} {
		all = append(all, slices.Repeat([]int{col}, rows))
	}
	some := strewn.Numbers(4 * rows)
	for from := range 4 {
		var turns, rising, falling, others []int
		for row := range rows {
			turns = append(turns, (row+from)%2*(width-1))
			rising = append(rising, (row+from)%width)
			falling = append(falling, width-1-(row+from)%width)
			others = append(others, int(some[from*rows+row]%uint64(width)))
		}
		all = append(all, turns, rising, falling, others)
	}
	return all
}

// Addition is a number that is added, and the columns by which it is.
type Addition struct {
	Cols  []int
	Delta int64
}

// Additions tells some additions to a grid of so many rows and columns, at least one
// of each, none of which is below 0, and all of which are less than 2^63 together;
// the same columns come again. Their numbers are strewn ones from the given one on.
func Additions(rows, width, from int) []Addition {
	times := slices.Repeat(Meeting(rows, width), 3)
	numbers := strewn.Signed(from, len(times), 8)
	all := make([]Addition, len(times))
	for i, cols := range times {
		all[i] = Addition{cols, numbers[i] & (1<<55 - 1)}
	}
	return all
}

// Added tells the sum of what is added by just these columns.
func Added(all []Addition, cols []int) int64 {
	sum := int64(0)
	for _, a := range all {
		if slices.Equal(a.Cols, cols) {
			sum += a.Delta
		}
	}
	return sum
}

// Named tells the numbers that the columns name among all cells of rows of so many.
func Named(l []int64, cols []int, width int) []int64 {
	var all []int64
	for row, col := range cols {
		all = append(all, l[row*width+col])
	}
	return all
}

// Filled tells a grid of so many rows and columns, with these numbers, row by row.
func Filled(rows, width int, l ...int64) *grid.Grid {
	g := grid.New(rows, width)
	for i, n := range l {
		g.Put(i/width, i%width, n)
	}
	return g
}
