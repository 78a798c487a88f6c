package field_test

import (
	"math/big"
	"slices"
	"testing"

	"gauger/field"
	"gauger/strewn"
)

const p = field.P

// edges has the numbers where folding, or what it folds, may go round.
var edges = []uint64{
	0, 1, 2, 3, 7, 8, 12345,
	1<<30 - 1, 1 << 30, 1 << 31, 1<<32 - 1, 1 << 32, 1 << 60,
	p/2 - 1, p / 2, p/2 + 1,
	p - 2, p - 1, p, p + 1, p + 2,
	2*p - 1, 2 * p, 2*p + 1, 7*p - 1, 7 * p, 7*p + 1, 8*p - 1, 8 * p, 8*p + 1,
	1<<62 - 1, 1 << 62, 1<<63 - 1, 1 << 63, 1<<64 - 2, 1<<64 - 1,
}

// samples has the edges and numbers strewn over all sixty-four bits.
func samples() []uint64 {
	return slices.Concat(edges, strewn.Numbers(60))
}

func wide(x uint64) *big.Int { return new(big.Int).SetUint64(x) }

// rest tells a whole number modulo P by another way than the package does.
func rest(n *big.Int) uint64 { return new(big.Int).Mod(n, wide(p)).Uint64() }

func TestPIsThePrime(t *testing.T) {
	if uint64(p) != 2305843009213693951 || !wide(p).ProbablyPrime(20) {
		t.Errorf("P is %d", uint64(p))
	}
}

func TestSumsNamed(t *testing.T) {
	for _, x := range []struct {
		name      string
		got, want uint64
	}{
		{"Fold(0)", field.Fold(0), 0},
		{"Fold(5)", field.Fold(5), 5},
		{"Fold(P-1)", field.Fold(p - 1), p - 1},
		{"Fold(P)", field.Fold(p), 0},
		{"Fold(P+1)", field.Fold(p + 1), 1},
		{"Fold(2P-1)", field.Fold(2*p - 1), p - 1},
		{"Fold(8P)", field.Fold(8 * p), 0},
		{"Fold(2^64-1)", field.Fold(1<<64 - 1), 7},
		{"Add(2, 3)", field.Add(2, 3), 5},
		{"Add(P-1, 1)", field.Add(p-1, 1), 0},
		{"Add(P-1, P-1)", field.Add(p-1, p-1), p - 2},
		{"Add(P, P)", field.Add(p, p), 0},
		{"Add(2^64-1, 2^64-1)", field.Add(1<<64-1, 1<<64-1), 14},
		{"Sub(5, 3)", field.Sub(5, 3), 2},
		{"Sub(3, 5)", field.Sub(3, 5), p - 2},
		{"Sub(0, 1)", field.Sub(0, 1), p - 1},
		{"Sub(0, P)", field.Sub(0, p), 0},
		{"Sub(P, 0)", field.Sub(p, 0), 0},
		{"Sub(7, P+7)", field.Sub(7, p+7), 0},
		{"Sub(0, 2^64-1)", field.Sub(0, 1<<64-1), p - 7},
	} {
		if x.got != x.want {
			t.Errorf("%s is %d, not %d", x.name, x.got, x.want)
		}
	}
}

func TestSumsOfAll(t *testing.T) {
	for _, a := range samples() {
		if got, want := field.Fold(a), rest(wide(a)); got != want {
			t.Errorf("Fold(%d) is %d, not %d", a, got, want)
		}
		for _, b := range samples() {
			if got, want := field.Add(a, b), rest(new(big.Int).Add(wide(a), wide(b))); got != want {
				t.Errorf("Add(%d, %d) is %d, not %d", a, b, got, want)
			}
			if got, want := field.Sub(a, b), rest(new(big.Int).Sub(wide(a), wide(b))); got != want {
				t.Errorf("Sub(%d, %d) is %d, not %d", a, b, got, want)
			}
		}
	}
}

func TestProductsNamed(t *testing.T) {
	for _, x := range []struct {
		name      string
		got, want uint64
	}{
		{"Mul(6, 7)", field.Mul(6, 7), 42},
		{"Mul(2^60, 4)", field.Mul(1<<60, 4), 2},
		{"Mul(0, P-1)", field.Mul(0, p-1), 0},
		{"Mul(P-1, P-1)", field.Mul(p-1, p-1), 1},
		{"Mul(P, 7)", field.Mul(p, 7), 0},
		{"Mul(P+3, 7)", field.Mul(p+3, 7), 21},
		{"Mul(2^64-1, 2^64-1)", field.Mul(1<<64-1, 1<<64-1), 49},
		{"Pow(5, 3)", field.Pow(5, 3), 125},
		{"Pow(5, 1)", field.Pow(5, 1), 5},
		{"Pow(2, 61)", field.Pow(2, 61), 1},
		{"Pow(3, 0)", field.Pow(3, 0), 1},
		{"Pow(0, 0)", field.Pow(0, 0), 1},
		{"Pow(P, 0)", field.Pow(p, 0), 1},
		{"Pow(0, 5)", field.Pow(0, 5), 0},
		{"Pow(P, 1)", field.Pow(p, 1), 0},
		{"Pow(0, 2^64-1)", field.Pow(0, 1<<64-1), 0},
		{"Pow(P-1, 2^64-1)", field.Pow(p-1, 1<<64-1), p - 1},
		{"Pow(P+5, 3)", field.Pow(p+5, 3), 125},
		// P is 0 modulo P, but as a number of times it counts as it is.
		{"Pow(3, P)", field.Pow(3, p), 3},
		{"Inv(1)", field.Inv(1), 1},
		{"Inv(2)", field.Inv(2), 1 << 60},
		{"Inv(0)", field.Inv(0), 0},
		{"Inv(P-1)", field.Inv(p - 1), p - 1},
		{"Inv(P)", field.Inv(p), 0},
		{"Inv(8P)", field.Inv(8 * p), 0},
		{"Inv(P+2)", field.Inv(p + 2), 1 << 60},
	} {
		if x.got != x.want {
			t.Errorf("%s is %d, not %d", x.name, x.got, x.want)
		}
	}
}

func TestProductsOfAll(t *testing.T) {
	for _, a := range samples() {
		for _, b := range samples() {
			if got, want := field.Mul(a, b), rest(new(big.Int).Mul(wide(a), wide(b))); got != want {
				t.Errorf("Mul(%d, %d) is %d, not %d", a, b, got, want)
			}
			if got, want := field.Pow(a, b), new(big.Int).Exp(wide(a), wide(b), wide(p)).Uint64(); got != want {
				t.Errorf("Pow(%d, %d) is %d, not %d", a, b, got, want)
			}
		}
	}
}

func TestInverses(t *testing.T) {
	for _, a := range samples() {
		want := uint64(0)
		if a%p != 0 {
			want = new(big.Int).ModInverse(wide(a), wide(p)).Uint64()
		}
		if got := field.Inv(a); got != want {
			t.Errorf("Inv(%d) is %d, not %d", a, got, want)
		}
	}
}

// The chapter's section "What follows".
func TestWhatFollows(t *testing.T) {
	all := samples()
	for i, a := range all {
		b, c := all[(i*7+3)%len(all)], all[(i*11+5)%len(all)]
		if field.Add(field.Add(a, b), c) != field.Add(c, field.Add(b, a)) {
			t.Errorf("the sum of %d, %d and %d hangs on the order", a, b, c)
		}
		if field.Mul(field.Mul(a, b), c) != field.Mul(c, field.Mul(b, a)) {
			t.Errorf("the product of %d, %d and %d hangs on the order", a, b, c)
		}
		if field.Mul(a, field.Add(b, c)) != field.Add(field.Mul(a, b), field.Mul(a, c)) {
			t.Errorf("%d times the sum of %d and %d is not the sum of the products", a, b, c)
		}
		if field.Add(field.Sub(a, b), b) != field.Fold(a) {
			t.Errorf("%d, taken away from %d and added again, leaves another number", b, a)
		}
		if a%p != 0 && field.Pow(a, p-1) != 1 {
			t.Errorf("%d to the power of P-1 is not 1", a)
		}
	}
}
