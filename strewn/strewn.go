// Package strewn has the numbers that the layers' tests try beside their edges.
package strewn

// Numbers tells so many numbers over all sixty-four bits, each time the same.
func Numbers(count int) []uint64 {
	all := make([]uint64, max(count, 0))
	x := uint64(88172645463325252)
	for i := range all {
		x ^= x << 13
		x ^= x >> 7
		x ^= x << 17
		all[i] = x
	}
	return all
}
