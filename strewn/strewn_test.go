package strewn_test

import (
	"slices"
	"testing"

	"gauger/strewn"
)

func TestNumbers(t *testing.T) {
	all := strewn.Numbers(1000)
	bits, seen := [64]int{}, map[uint64]bool{}
	for _, x := range all {
		seen[x] = true
		for i := range bits {
			bits[i] += int(x >> i & 1)
		}
	}
	if len(all) != 1000 || len(seen) != 1000 {
		t.Errorf("%d numbers, %d of them unlike", len(all), len(seen))
	}
	for i, n := range bits {
		if n < 400 || n > 600 {
			t.Errorf("bit %d stands in %d of 1000 numbers", i, n)
		}
	}
	if !slices.Equal(strewn.Numbers(10), all[:10]) {
		t.Error("fewer numbers are not the first ones")
	}
	for _, count := range []int{0, -1, -1 << 63} {
		if got := strewn.Numbers(count); len(got) != 0 {
			t.Errorf("%d numbers are %v", count, got)
		}
	}
}
