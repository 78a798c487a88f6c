package hash_test

import (
	"math"
	"math/big"
	"slices"
	"testing"

	"gauger/field"
	"gauger/hash"
	"gauger/strewn"
)

const (
	p    = field.P
	full = 1<<64 - 1
)

// edges has the numbers where they, or what is folded of them, may go round.
var edges = []uint64{
	0, 1, 2, 3, 7, 8, 1 << 32, 1 << 60, p / 2, p - 2, p - 1, p, p + 1, p + 2,
	2*p - 1, 2 * p, 1 << 62, 7*p + 1, 8*p - 1, 8 * p, 1 << 63, full - 1, full,
}

// widths has those that may be, the edges of what they are, and the greatest ones.
var widths = []int{
	1, 2, 3, 4, 7, 8, 61, 64, 100, 127, 128, 1 << 31, 1<<32 + 1, 1 << 60,
	p - 1, p, p + 1, 1 << 61, 1 << 62, math.MaxInt - 1, math.MaxInt,
}

// samples has the edges and numbers strewn over all sixty-four bits.
func samples() []uint64 {
	return slices.Concat(edges, strewn.Numbers(20))
}

func whole(x uint64) *big.Int { return new(big.Int).SetUint64(x) }

// valued tells Line as the chapter says it, by another way than the package does.
func valued(a, b, x uint64) uint64 {
	n := new(big.Int).Mul(whole(a), whole(x))
	n.Add(n, whole(b))
	return n.Mod(n, whole(p)).Uint64()
}

// placed tells Bucket, of a width that may be, as the chapter says it.
func placed(a, b, x uint64, width int) int {
	n := whole(valued(a, b, x))
	return int(n.Mod(n, big.NewInt(int64(width))).Int64())
}

func TestLineNamed(t *testing.T) {
	for _, x := range []struct {
		name          string
		a, b, x, want uint64
	}{
		{"the chapter's example", 2, 3, 5, 13},
		{"at 0", 2, 3, 0, 3},
		{"nothing", 0, 0, 0, 0},
		{"a slope of 0", 0, 7, 99, 7},
		{"a slope of P", p, 7, 99, 7},
		{"a slope of 8P", 8 * p, 7, full, 7},
		{"a key of P", 5, 7, p, 7},
		{"a value of P", 1, p - 1, 1, 0},
		{"a value beyond P", 1, p - 1, 5, 4},
		{"b of P", 2, p, 5, 10},
		{"b of 2^64-1", 0, full, 5, 7},
		{"a slope of P-1 is -1", p - 1, 0, 1, p - 1},
		{"-1 times -1", p - 1, p - 1, p - 1, 0},
		{"all beyond P", p + 2, p + 3, p + 5, 13},
		{"all 2^64-1", full, full, full, 56},
		{"a product beyond 2^64", 1 << 60, 1, 4, 3},
	} {
		if got := hash.Line(x.a, x.b, x.x); got != x.want {
			t.Errorf("%s: Line(%d, %d, %d) is %d, not %d", x.name, x.a, x.b, x.x, got, x.want)
		}
	}
}

func TestLineOfAll(t *testing.T) {
	all := samples()
	for _, a := range all {
		for _, b := range all {
			for _, x := range all {
				if got, want := hash.Line(a, b, x), valued(a, b, x); got != want {
					t.Errorf("Line(%d, %d, %d) is %d, not %d", a, b, x, got, want)
				}
			}
		}
	}
}

func TestBucketNamed(t *testing.T) {
	for _, x := range []struct {
		name    string
		a, b, x uint64
		width   int
		want    int
	}{
		{"the chapter's example", 2, 3, 5, 4, 1},
		{"a width of 1", 2, 3, 5, 1, 0},
		{"a width that divides", 2, 3, 5, 13, 0},
		{"a width of one more", 2, 3, 5, 14, 13},
		{"a width of 0", 2, 3, 5, 0, -1},
		{"a width of -1", 2, 3, 5, -1, -1},
		{"a width of -4", 2, 3, 5, -4, -1},
		{"the least width", 2, 3, 5, math.MinInt, -1},
		{"the greatest width", 2, 3, 5, math.MaxInt, 13},
		{"the greatest width, and the greatest value", 1, 0, p - 1, math.MaxInt, p - 1},
		{"a width of P", 1, 0, p - 1, p, p - 1},
		{"a width of P-1", 1, 0, p - 1, p - 1, 0},
		{"P is 0 ahead of the width", 1, 0, p, 4, 0},
		{"2^64-1 is 7 ahead of the width", 1, 0, full, 4, 3},
		{"a slope of P", p, 9, 5, 4, 1},
		{"the greatest width of a grid", 1, 1, 127, 128, 0},
	} {
		if got := hash.Bucket(x.a, x.b, x.x, x.width); got != x.want {
			t.Errorf("%s: Bucket(%d, %d, %d, %d) is %d, not %d", x.name, x.a, x.b, x.x, x.width, got, x.want)
		}
	}
}

func TestBucketOfAll(t *testing.T) {
	all := samples()
	for i, a := range all {
		b := all[(i*7+3)%len(all)]
		for _, x := range all {
			for _, width := range widths {
				if got, want := hash.Bucket(a, b, x, width), placed(a, b, x, width); got != want {
					t.Errorf("Bucket(%d, %d, %d, %d) is %d, not %d", a, b, x, width, got, want)
				}
			}
			for _, width := range []int{0, -1, -2, -128, -p, -1 << 32, math.MinInt + 1, math.MinInt} {
				if got := hash.Bucket(a, b, x, width); got != -1 {
					t.Errorf("Bucket(%d, %d, %d, %d) is %d, not -1", a, b, x, width, got)
				}
			}
		}
	}
}

func TestThroughNamed(t *testing.T) {
	for _, x := range []struct {
		name       string
		x, u, y, v uint64
		a, b       uint64
		ok         bool
	}{
		{"the chapter's example", 1, 5, 2, 7, 2, 3, true},
		{"the points the other way round", 2, 7, 1, 5, 2, 3, true},
		{"the points beyond P", p + 1, p + 5, p + 2, p + 7, 2, 3, true},
		{"the values alike", 0, 8, 5, 8, 0, 8, true},
		{"the values alike modulo P", 0, 8, 5, p + 8, 0, 8, true},
		{"both values 0", 3, 0, 4, p, 0, 0, true},
		{"a half", 0, 0, 2, 1, 1 << 60, 0, true},
		{"a fall", 0, 1, 1, 0, p - 1, 1, true},
		{"keys of 0 and P-1", 0, 5, p - 1, 3, 2, 5, true},
		{"keys of 2^64-1 and 0", full, 17, 0, 3, 2, 3, true},
		{"the same point twice", 4, 9, 4, 9, 0, 0, false},
		{"the same key, unlike values", 4, 9, 4, 8, 0, 0, false},
		{"the same key modulo P", 4, 9, p + 4, 8, 0, 0, false},
		{"the same key modulo P, the greater one first", 7*p + 4, 9, 4, 9, 0, 0, false},
		{"0 and P", 0, 1, p, 2, 0, 0, false},
		{"0 and 8P", 0, 1, 8 * p, 2, 0, 0, false},
		{"7 and 2^64-1", 7, 1, full, 2, 0, 0, false},
	} {
		a, b, ok := hash.Through(x.x, x.u, x.y, x.v)
		if a != x.a || b != x.b || ok != x.ok {
			t.Errorf("%s: Through(%d, %d, %d, %d) is %d, %d, %t, not %d, %d, %t", x.name, x.x, x.u, x.y, x.v, a, b, ok, x.a, x.b, x.ok)
		}
	}
}

func TestThroughOfAll(t *testing.T) {
	all := samples()
	for i, x := range all {
		for j, y := range all {
			for k := range 8 {
				u, v := all[(i+j*5+k*7)%len(all)], all[(i*3+j+k*11+1)%len(all)]
				a, b, ok := hash.Through(x, u, y, v)
				switch {
				case x%p == y%p:
					if a != 0 || b != 0 || ok {
						t.Errorf("Through(%d, %d, %d, %d) is %d, %d, %t of one key", x, u, y, v, a, b, ok)
					}
				case !ok || a >= p || b >= p:
					t.Errorf("Through(%d, %d, %d, %d) is %d, %d, %t", x, u, y, v, a, b, ok)
				case valued(a, b, x) != u%p || valued(a, b, y) != v%p:
					t.Errorf("Through(%d, %d, %d, %d) is %d, %d, which does not go through both", x, u, y, v, a, b)
				}
			}
		}
	}
}

// The chapter's section "What follows": a line is found again by any two of its
// points, so unlike lines meet unlike pairs of values.
func TestWhatFollows(t *testing.T) {
	all := samples()
	for _, k := range []struct{ x, y uint64 }{{0, 1}, {1, 0}, {3, p - 1}, {12345, 1<<59 - 1}, {p + 5, full}} {
		from := map[[2]uint64][2]uint64{}
		for _, a := range all {
			for _, b := range all {
				line := [2]uint64{a % p, b % p}
				values := [2]uint64{hash.Line(a, b, k.x), hash.Line(a, b, k.y)}
				if other, ok := from[values]; ok && other != line {
					t.Errorf("the lines %v and %v both have %v at %d and %d", line, other, values, k.x, k.y)
				}
				from[values] = line
				foundA, foundB, ok := hash.Through(k.x, values[0], k.y, values[1])
				if !ok || foundA != line[0] || foundB != line[1] {
					t.Errorf("the line %v is found as %d, %d, %t by its values at %d and %d", line, foundA, foundB, ok, k.x, k.y)
				}
			}
		}
	}
}
