// Package strewn has the numbers that the layers' tests try beside their edges.
package strewn

// Numbers tells so many numbers over all sixty-four bits, each time the same.
func Numbers(count int) []uint64 {
	all := make([]uint64, max(count, 0))
	x := uint64(88172645463325252)
	for i := range all {
		x ^= x << 13
		x ^= x >> 7
		x ^= x << 17
		all[i] = x
	}
	return all
}

// Signed tells so many of the numbers, from the given one on, below 0 as above it, none
// of which has more bits than is left of sixty-four behind the shift.
func Signed(from, count int, shift uint) []int64 {
	from, count = max(from, 0), max(count, 0)
	all := make([]int64, count)
	for i, x := range Numbers(from + count)[from:] {
		all[i] = int64(x) >> shift
	}
	return all
}
