package strewn_test

import (
	"slices"
	"testing"

	"gauger/strewn"
)

func TestNumbers(t *testing.T) {
	all := strewn.Numbers(1000)
	bits, seen := [64]int{}, map[uint64]bool{}
	for _, x := range all {
		seen[x] = true
		for i := range bits {
			bits[i] += int(x >> i & 1)
		}
	}
	if len(all) != 1000 || len(seen) != 1000 {
		t.Errorf("%d numbers, %d of them unlike", len(all), len(seen))
	}
	for i, n := range bits {
		if n < 400 || n > 600 {
			t.Errorf("bit %d stands in %d of 1000 numbers", i, n)
		}
	}
	if !slices.Equal(strewn.Numbers(10), all[:10]) {
		t.Error("fewer numbers are not the first ones")
	}
	for _, count := range []int{0, -1, -1 << 63} {
		if got := strewn.Numbers(count); len(got) != 0 {
			t.Errorf("%d numbers are %v", count, got)
		}
	}
}

func TestSigned(t *testing.T) {
	all := strewn.Numbers(300)
	for _, shift := range []uint{0, 1, 8, 62} {
		below := 0
		for i, n := range strewn.Signed(0, 300, shift) {
			if n != int64(all[i])>>shift {
				t.Errorf("number %d is %d", i, n)
			}
			if n < 0 {
				below++
			}
		}
		if below < 100 || below > 200 {
			t.Errorf("%d of 300 numbers are below 0", below)
		}
	}
	if got := strewn.Signed(7, 20, 3); !slices.Equal(got, strewn.Signed(0, 27, 3)[7:]) {
		t.Errorf("from number 7 on there are %v", got)
	}
	for _, x := range []struct{ from, count int }{{0, 0}, {5, 0}, {5, -1}, {0, -1 << 63}} {
		if got := strewn.Signed(x.from, x.count, 0); len(got) != 0 {
			t.Errorf("%d numbers are %v", x.count, got)
		}
	}
	if got := strewn.Signed(-1, 2, 0); !slices.Equal(got, strewn.Signed(0, 2, 0)) {
		t.Errorf("from below 0 on there are %v", got)
	}
}
