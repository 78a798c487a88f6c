package span

import (
	"slices"
	"testing"

	"gauger/api"
	"gauger/stack"
)

// Who goes through what is told may stop at any of it.
func TestToldStops(t *testing.T) {
	s, _ := stack.New(api.Config{Bits: 2, Rows: 1, Width: 4, Mode: api.Linear})
	if !s.Load(0, []int64{5, 6, 7, 8}) {
		t.Fatal("four numbers are not loaded")
	}
	all := []api.Piece{{Index: 3}, {Index: 0}, {Index: 2}}
	want := []int64{8, 5, 7}
	for count := range want {
		var got []int64
		for n := range told(s, all) {
			got = append(got, n)
			if len(got) > count {
				break
			}
		}
		if !slices.Equal(got, want[:count+1]) {
			t.Errorf("the first %d of %v are %v", count+1, want, got)
		}
	}
}
