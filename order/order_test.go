package order_test

import (
	"math"
	"slices"
	"testing"

	"gauger/order"
	"gauger/strewn"
)

const (
	least = math.MinInt64
	most  = math.MaxInt64
)

// named has the edges that the chapter names, each with its numbers in order.
var named = []struct {
	name       string
	l, ordered []int64
	median     int64
}{
	{"one number", []int64{7}, []int64{7}, 7},
	{"one number, 0", []int64{0}, []int64{0}, 0},
	{"one number, the least", []int64{least}, []int64{least}, least},
	{"one number, the greatest", []int64{most}, []int64{most}, most},
	{"two numbers", []int64{2, 1}, []int64{1, 2}, 1},
	{"two numbers below 0", []int64{-1, -2}, []int64{-2, -1}, -2},
	{"two numbers, one to each side of 0", []int64{1, -1}, []int64{-1, 1}, -1},
	{"two that are the same", []int64{3, 3}, []int64{3, 3}, 3},
	{"the chapter's example of three", []int64{5, 1, 3}, []int64{1, 3, 5}, 3},
	{"the chapter's example of four", []int64{5, 1, 3, 9}, []int64{1, 3, 5, 9}, 3},
	{"an odd count, in order", []int64{1, 2, 3, 4, 5}, []int64{1, 2, 3, 4, 5}, 3},
	{"an odd count, turned round", []int64{5, 4, 3, 2, 1}, []int64{1, 2, 3, 4, 5}, 3},
	{"an even count, in order", []int64{1, 2, 3, 4, 5, 6}, []int64{1, 2, 3, 4, 5, 6}, 3},
	{"an even count, turned round", []int64{6, 5, 4, 3, 2, 1}, []int64{1, 2, 3, 4, 5, 6}, 3},
	{"all the same", []int64{4, 4, 4, 4, 4}, []int64{4, 4, 4, 4, 4}, 4},
	{"all the least", []int64{least, least, least}, []int64{least, least, least}, least},
	{"all the greatest", []int64{most, most, most}, []int64{most, most, most}, most},
	{"many the same, one less", []int64{2, 2, 2, 1}, []int64{1, 2, 2, 2}, 2},
	{"many the same, one greater", []int64{2, 9, 2, 2}, []int64{2, 2, 2, 9}, 2},
	{"two numbers, each many times", []int64{4, 4, 1, 1, 1}, []int64{1, 1, 1, 4, 4}, 1},
	{"the least and the greatest", []int64{most, least}, []int64{least, most}, least},
	{"the least, the greatest, and -1 and 0", []int64{0, most, -1, least}, []int64{least, -1, 0, most}, -1},
	{"next to the least", []int64{least + 1, least, least + 2}, []int64{least, least + 1, least + 2}, least + 1},
	{"next to the greatest", []int64{most - 1, most, most - 2}, []int64{most - 2, most - 1, most}, most - 1},
	{"both sides of 0", []int64{0, -5, -5, 8, 8}, []int64{-5, -5, 0, 8, 8}, 0},
	{"all below 0", []int64{-3, -1, -2, -4}, []int64{-4, -3, -2, -1}, -3},
}

// doubling has numbers each of which is about twice as far from 0 as another
// one: of these the fewest are parted from the others halfway between the ends.
func doubling() []int64 {
	all := []int64{least, 0, most}
	for i := range 63 {
		all = append(all, 1<<i, -1<<i, 1<<i-1)
	}
	return all
}

// every tells each row of so many of the values.
func every(values []int64, count int) [][]int64 {
	all := [][]int64{nil}
	for range count {
		var longer [][]int64
		for _, l := range all {
			for _, x := range values {
				longer = append(longer, append(slices.Clone(l), x))
			}
		}
		all = longer
	}
	return all
}

// lists has all short rows of a few values, the edges, and longer rows of
// strewn numbers, of few values and of many.
func lists() [][]int64 {
	all := [][]int64{nil, {}, doubling()}
	for _, x := range named {
		all = append(all, x.l)
	}
	for count := 1; count <= 6; count++ {
		all = append(all, every([]int64{-1, 0, 1}, count)...)
	}
	for count := 1; count <= 4; count++ {
		all = append(all, every([]int64{least, least + 1, -2, 1, most - 1, most}, count)...)
	}
	numbers := strewn.Numbers(300)
	for i, count := range []int{7, 8, 9, 31, 32, 33, 100, 255} {
		for _, shift := range []uint{0, 1, 8, 32, 56, 60, 62, 63} {
			var l []int64
			for _, x := range numbers[i : i+count] {
				l = append(l, int64(x)>>shift)
			}
			all = append(all, l)
		}
	}
	return all
}

// sorted tells the numbers in order, by another way than the package does.
func sorted(l []int64) []int64 {
	return slices.Sorted(slices.Values(l))
}

// beyond has places that rows of so many numbers don't have.
func beyond(count int) []int {
	return []int{-1, -2, -count, -count - 1, math.MinInt + 1, math.MinInt, count, count + 1, 2*count + 1, 1 << 32, 1 << 62, math.MaxInt - 1, math.MaxInt}
}

// holdPlaces holds Kth of all places that there are, and of some that there are
// not, against the numbers in order.
func holdPlaces(t *testing.T, l, ordered []int64) {
	t.Helper()
	for k, want := range ordered {
		if got, ok := order.Kth(l, k); got != want || !ok {
			t.Errorf("Kth(%v, %d) is %d, %t, not %d", l, k, got, ok, want)
		}
	}
	for _, k := range beyond(len(l)) {
		if k >= 0 && k < len(l) {
			continue
		}
		if got, ok := order.Kth(l, k); got != 0 || ok {
			t.Errorf("Kth(%v, %d) is %d, %t, though there is no such place", l, k, got, ok)
		}
	}
}

// holdEnds holds Min and Median of some numbers against these.
func holdEnds(t *testing.T, l []int64, first, median int64) {
	t.Helper()
	if got, ok := order.Min(l); got != first || !ok {
		t.Errorf("Min(%v) is %d, %t, not %d", l, got, ok, first)
	}
	if got, ok := order.Median(l); got != median || !ok {
		t.Errorf("Median(%v) is %d, %t, not %d", l, got, ok, median)
	}
}

func TestKthNamed(t *testing.T) {
	for _, x := range named {
		t.Run(x.name, func(t *testing.T) { holdPlaces(t, x.l, x.ordered) })
	}
}

func TestMinMedianNamed(t *testing.T) {
	for _, x := range named {
		t.Run(x.name, func(t *testing.T) { holdEnds(t, x.l, x.ordered[0], x.median) })
	}
}

func TestNoNumbers(t *testing.T) {
	for _, l := range [][]int64{nil, {}, make([]int64, 0, 3), []int64{7, 8}[:0]} {
		for _, k := range append(beyond(0), 0) {
			if got, ok := order.Kth(l, k); got != 0 || ok {
				t.Errorf("Kth of no numbers at %d is %d, %t", k, got, ok)
			}
		}
		if got, ok := order.Min(l); got != 0 || ok {
			t.Errorf("Min of no numbers is %d, %t", got, ok)
		}
		if got, ok := order.Median(l); got != 0 || ok {
			t.Errorf("Median of no numbers is %d, %t", got, ok)
		}
	}
}

func TestOfAll(t *testing.T) {
	for _, l := range lists() {
		ordered := sorted(l)
		holdPlaces(t, l, ordered)
		if len(l) > 0 {
			holdEnds(t, l, ordered[0], ordered[(len(l)-1)/2])
		}
	}
}

func TestNumbersStay(t *testing.T) {
	for _, l := range lists() {
		// Room behind the numbers belongs to the owner, too.
		whole := append(slices.Clone(l), 11, -12, 13)
		before := slices.Clone(whole)
		for k := -1; k <= len(l); k++ {
			order.Kth(whole[:len(l)], k)
		}
		order.Min(whole[:len(l)])
		order.Median(whole[:len(l)])
		if !slices.Equal(whole, before) {
			t.Errorf("%v became %v", before, whole)
		}
	}
}

func TestNothingKept(t *testing.T) {
	l := []int64{5, 1, 3, 9}
	holdEnds(t, l, 1, 3)
	copy(l, []int64{-5, -1, -3, -9})
	holdEnds(t, l, -9, -5)
	holdPlaces(t, l, []int64{-9, -5, -3, -1})
	holdPlaces(t, l[1:3], []int64{-3, -1})
}

// The chapter's section "What follows": it does not matter in which order
// numbers stand.
func TestAnyOrder(t *testing.T) {
	for _, l := range lists() {
		ordered := sorted(l)
		turned := slices.Clone(ordered)
		slices.Reverse(turned)
		holdPlaces(t, ordered, ordered)
		holdPlaces(t, turned, ordered)
		for _, by := range []int{1, len(l) / 3, len(l) / 2} {
			by = min(by, len(l))
			holdPlaces(t, slices.Concat(ordered[by:], ordered[:by]), ordered)
			holdPlaces(t, slices.Concat(turned[by:], turned[:by]), ordered)
		}
	}
}

// The chapter's section "What follows": if more than half of the numbers lie
// from one number to another one, the median does, too.
func TestMoreThanHalf(t *testing.T) {
	for _, l := range lists() {
		median, _ := order.Median(l)
		borders := sorted(l)
		if len(l) > 40 {
			borders = append(borders[:20], borders[len(l)-20:]...)
		}
		for _, from := range borders {
			for _, to := range borders {
				inside := 0
				for _, x := range l {
					if from <= x && x <= to {
						inside++
					}
				}
				if inside > len(l)/2 && (median < from || median > to) {
					t.Errorf("the median of %v is %d, but %d numbers lie from %d to %d", l, median, inside, from, to)
				}
			}
		}
	}
}

// A call ends in good time, however many numbers there are, and however they
// stand: to hold each one of these against all others would take too long.
func TestManyNumbers(t *testing.T) {
	const count = 1 << 18
	numbers, doubled := strewn.Numbers(count), doubling()
	for name, at := range map[string]func(i int) int64{
		"in order":          func(i int) int64 { return int64(i) },
		"turned round":      func(i int) int64 { return int64(-i) },
		"the same":          func(int) int64 { return 6 },
		"two by turns":      func(i int) int64 { return int64(i & 1) },
		"the ends by turns": func(i int) int64 { return -int64(i&1) ^ most },
		"up and down":       func(i int) int64 { return int64(min(i, count-i)) },
		"down and up":       func(i int) int64 { return int64(max(i, count-i)) },
		"by a few":          func(i int) int64 { return int64(i % 7) },
		"strewn":            func(i int) int64 { return int64(numbers[i]) },
		"doubling":          func(i int) int64 { return doubled[i%len(doubled)] },
		"the greatest, one less": func(i int) int64 {
			if i == count/2 {
				return least
			}
			return most
		},
	} {
		t.Run(name, func(t *testing.T) {
			l := make([]int64, count)
			for i := range l {
				l[i] = at(i)
			}
			ordered := sorted(l)
			for _, k := range []int{0, 1, count / 3, count/2 - 1, count / 2, count - 2, count - 1} {
				if got, ok := order.Kth(l, k); got != ordered[k] || !ok {
					t.Errorf("the number at place %d is %d, %t, not %d", k, got, ok, ordered[k])
				}
			}
			if got, ok := order.Min(l); got != ordered[0] || !ok {
				t.Errorf("the least is %d, %t, not %d", got, ok, ordered[0])
			}
			if got, ok := order.Median(l); got != ordered[count/2-1] || !ok {
				t.Errorf("the median is %d, %t, not %d", got, ok, ordered[count/2-1])
			}
		})
	}
}
