package wide_test

import (
	"math/big"
	"slices"
	"testing"

	"gauger/api"
	"gauger/strewn"
	"gauger/wide"
)

const (
	least = -1 << 63
	most  = 1<<63 - 1
	full  = 1<<64 - 1
)

// leastWide and mostWide are -2^127 and 2^127 - 1.
var (
	leastWide = api.Wide{Hi: least}
	mostWide  = api.Wide{Hi: most, Lo: full}
)

// value tells the whole number that a pair is, as the chapter says it.
func value(a api.Wide) *big.Int {
	n := new(big.Int).Lsh(big.NewInt(a.Hi), 64)
	return n.Add(n, new(big.Int).SetUint64(a.Lo))
}

// within tells whether n is from -2^k to 2^k - 1.
func within(n *big.Int, k uint) bool {
	end := new(big.Int).Lsh(big.NewInt(1), k)
	return n.Cmp(end) < 0 && n.Cmp(new(big.Int).Neg(end)) >= 0
}

// pair tells the one pair of a number, and zero and false of what does not fit.
func pair(n *big.Int) (api.Wide, bool) {
	if !within(n, 127) {
		return api.Wide{}, false
	}
	hi := new(big.Int).Rsh(n, 64)
	lo := new(big.Int).Sub(n, new(big.Int).Lsh(hi, 64))
	return api.Wide{Hi: hi.Int64(), Lo: lo.Uint64()}, true
}

// narrow tells a number of sixty-four bits, and 0 and false of any other.
func narrow(n *big.Int) (int64, bool) {
	if !within(n, 63) {
		return 0, false
	}
	return n.Int64(), true
}

// narrows has the edges of sixty-four bits, and numbers strewn between them.
func narrows() []int64 {
	all := []int64{
		0, 1, 2, 3, 9, 10, 11, 99, 100, 12345,
		1<<31 - 1, 1 << 31, 1<<32 - 1, 1 << 32, 1<<62 - 1, 1 << 62, 1<<62 + 1, most - 1, most,
		-1, -2, -3, -9, -10, -11, -12345,
		-1 << 31, -1 << 32, -1<<62 + 1, -1 << 62, -1<<62 - 1, least + 1, least,
	}
	for i, x := range strewn.Numbers(60) {
		all = append(all, int64(x)>>(i%40))
	}
	return all
}

// wides has the edges of both halves, the powers of ten, and numbers strewn between them.
func wides() []api.Wide {
	var all []api.Wide
	for _, hi := range []int64{0, 1, 2, 1<<62 - 1, 1 << 62, most - 1, most, -1, -2, -3, -1 << 62, least + 1, least} {
		for _, lo := range []uint64{0, 1, 2, most - 1, most, most + 1, most + 2, full - 1, full} {
			all = append(all, api.Wide{Hi: hi, Lo: lo})
		}
	}
	for power := big.NewInt(1); within(power, 127); power = new(big.Int).Mul(power, big.NewInt(10)) {
		for _, n := range []*big.Int{power, new(big.Int).Sub(power, big.NewInt(1)), new(big.Int).Neg(power)} {
			a, _ := pair(n)
			all = append(all, a)
		}
	}
	x := strewn.Numbers(60)
	for i := range 30 {
		all = append(all, api.Wide{Hi: int64(x[i]) >> (2 * i), Lo: x[59-i]})
	}
	return all
}

func TestOf(t *testing.T) {
	for n, want := range map[int64]api.Wide{
		0: {}, 1: {Lo: 1}, -1: {Hi: -1, Lo: full}, most: {Lo: most}, least: {Hi: -1, Lo: 1 << 63},
	} {
		if got := wide.Of(n); got != want {
			t.Errorf("Of(%d) is %v, not %v", n, got, want)
		}
	}
	for _, n := range narrows() {
		if got := value(wide.Of(n)); got.Cmp(big.NewInt(n)) != 0 {
			t.Errorf("Of(%d) is %d", n, got)
		}
		if got, ok := wide.Int(wide.Of(n)); got != n || !ok {
			t.Errorf("Int(Of(%d)) is %d, %t", n, got, ok)
		}
	}
}

func TestIntNamed(t *testing.T) {
	for _, x := range []struct {
		name string
		a    api.Wide
		want int64
		ok   bool
	}{
		{"0", api.Wide{}, 0, true},
		{"-1", api.Wide{Hi: -1, Lo: full}, -1, true},
		{"2^63-1", api.Wide{Lo: most}, most, true},
		{"2^63", api.Wide{Lo: 1 << 63}, 0, false},
		{"-2^63", api.Wide{Hi: -1, Lo: 1 << 63}, least, true},
		{"-2^63-1", api.Wide{Hi: -1, Lo: most}, 0, false},
		{"2^64-1", api.Wide{Lo: full}, 0, false},
		{"2^64", api.Wide{Hi: 1}, 0, false},
		{"2^64+5", api.Wide{Hi: 1, Lo: 5}, 0, false},
		{"-2^64", api.Wide{Hi: -1}, 0, false},
		{"-2^64-1", api.Wide{Hi: -2, Lo: full}, 0, false},
		{"-2^127", leastWide, 0, false},
		{"2^127-1", mostWide, 0, false},
	} {
		if got, ok := wide.Int(x.a); got != x.want || ok != x.ok {
			t.Errorf("Int of %s is %d, %t", x.name, got, ok)
		}
	}
}

func TestTextNamed(t *testing.T) {
	for want, a := range map[string]api.Wide{
		"0": {}, "7": {Lo: 7}, "10": {Lo: 10}, "1000": {Lo: 1000}, "90210": {Lo: 90210},
		"-1": wide.Of(-1), "-10": wide.Of(-10), "-120": wide.Of(-120),
		"9223372036854775807": wide.Of(most), "-9223372036854775808": wide.Of(least),
		"18446744073709551615": {Lo: full}, "18446744073709551616": {Hi: 1},
		"-18446744073709551615": {Hi: -1, Lo: 1}, "-18446744073709551616": {Hi: -1},
		"170141183460469231731687303715884105727":  mostWide,
		"-170141183460469231731687303715884105727": {Hi: least, Lo: 1},
		"-170141183460469231731687303715884105728": leastWide,
	} {
		if got := wide.Text(a); got != want {
			t.Errorf("Text of %v is %q, not %q", a, got, want)
		}
	}
}

func TestNumbersOfAll(t *testing.T) {
	for _, a := range wides() {
		if got, want := wide.Text(a), value(a).String(); got != want {
			t.Errorf("Text of %v is %q, not %q", a, got, want)
		}
		want, fits := narrow(value(a))
		if got, ok := wide.Int(a); got != want || ok != fits {
			t.Errorf("Int of %v is %d, %t", a, got, ok)
		}
	}
}

func TestReckoningNamed(t *testing.T) {
	one, minusOne := wide.Of(1), wide.Of(-1)
	for _, x := range []struct {
		name string
		call func(a, b api.Wide) (api.Wide, bool)
		a, b api.Wide
		want api.Wide
		ok   bool
	}{
		{"0 and 0", wide.Add, api.Wide{}, api.Wide{}, api.Wide{}, true},
		{"2 and 3", wide.Add, wide.Of(2), wide.Of(3), wide.Of(5), true},
		{"2^64-1 and 1", wide.Add, api.Wide{Lo: full}, one, api.Wide{Hi: 1}, true},
		{"-1 and 1", wide.Add, minusOne, one, api.Wide{}, true},
		{"2^127-1 and 0", wide.Add, mostWide, api.Wide{}, mostWide, true},
		{"2^127-1 and 1", wide.Add, mostWide, one, api.Wide{}, false},
		{"2^127-2 and 1", wide.Add, api.Wide{Hi: most, Lo: full - 1}, one, mostWide, true},
		{"2^127-1 and -2^127", wide.Add, mostWide, leastWide, minusOne, true},
		{"-2^127 and 0", wide.Add, leastWide, api.Wide{}, leastWide, true},
		{"-2^127 and -1", wide.Add, leastWide, minusOne, api.Wide{}, false},
		{"-2^127+1 and -1", wide.Add, api.Wide{Hi: least, Lo: 1}, minusOne, leastWide, true},
		{"-2^127 and -2^127", wide.Add, leastWide, leastWide, api.Wide{}, false},
		{"-2^126 twice", wide.Add, api.Wide{Hi: -1 << 62}, api.Wide{Hi: -1 << 62}, leastWide, true},
		{"2^126 twice", wide.Add, api.Wide{Hi: 1 << 62}, api.Wide{Hi: 1 << 62}, api.Wide{}, false},
		{"3 less 5", wide.Sub, wide.Of(3), wide.Of(5), wide.Of(-2), true},
		{"2^64 less 1", wide.Sub, api.Wide{Hi: 1}, one, api.Wide{Lo: full}, true},
		{"0 less 1", wide.Sub, api.Wide{}, one, minusOne, true},
		{"0 less -2^127", wide.Sub, api.Wide{}, leastWide, api.Wide{}, false},
		{"0 less 2^127-1", wide.Sub, api.Wide{}, mostWide, api.Wide{Hi: least, Lo: 1}, true},
		{"-1 less -2^127", wide.Sub, minusOne, leastWide, mostWide, true},
		{"-1 less 2^127-1", wide.Sub, minusOne, mostWide, leastWide, true},
		{"-2 less 2^127-1", wide.Sub, wide.Of(-2), mostWide, api.Wide{}, false},
		{"-2^127 less 1", wide.Sub, leastWide, one, api.Wide{}, false},
		{"2^127-1 less -1", wide.Sub, mostWide, minusOne, api.Wide{}, false},
		{"-2^127 less itself", wide.Sub, leastWide, leastWide, api.Wide{}, true},
		{"2^127-1 less itself", wide.Sub, mostWide, mostWide, api.Wide{}, true},
	} {
		if got, ok := x.call(x.a, x.b); got != x.want || ok != x.ok {
			t.Errorf("%s is %v, %t", x.name, got, ok)
		}
	}
}

func TestTimesNamed(t *testing.T) {
	for _, x := range []struct {
		a, b int64
		want api.Wide
	}{
		{6, 7, wide.Of(42)},
		{0, least, api.Wide{}},
		{-1, 1, wide.Of(-1)},
		{-3, -4, wide.Of(12)},
		{-1, least, api.Wide{Lo: 1 << 63}},
		{1 << 32, 1 << 32, api.Wide{Hi: 1}},
		// The chapter's example: 2^126.
		{least, least, api.Wide{Hi: 1 << 62}},
		{least, most, api.Wide{Hi: -1 << 62, Lo: 1 << 63}},
		{most, most, api.Wide{Hi: 1<<62 - 1, Lo: 1}},
	} {
		if got := wide.Times(x.a, x.b); got != x.want {
			t.Errorf("Times(%d, %d) is %v, not %v", x.a, x.b, got, x.want)
		}
		if got := wide.Times(x.b, x.a); got != x.want {
			t.Errorf("Times(%d, %d) is %v, not %v", x.b, x.a, got, x.want)
		}
	}
}

func TestLessNamed(t *testing.T) {
	rising := []api.Wide{
		leastWide, {Hi: least, Lo: 1}, {Hi: -2, Lo: full}, {Hi: -1}, {Hi: -1, Lo: most},
		wide.Of(least), wide.Of(-1), {}, wide.Of(1), wide.Of(most), {Lo: 1 << 63}, {Lo: full},
		{Hi: 1}, {Hi: 1, Lo: full}, {Hi: 2}, {Hi: most}, mostWide,
	}
	for i, a := range rising {
		for k, b := range rising {
			if got := wide.Less(a, b); got != (i < k) {
				t.Errorf("Less(%v, %v) is %t", a, b, got)
			}
		}
	}
}

func TestReckoningOfAll(t *testing.T) {
	for _, a := range wides() {
		for _, b := range wides() {
			want, fits := pair(new(big.Int).Add(value(a), value(b)))
			if got, ok := wide.Add(a, b); got != want || ok != fits {
				t.Errorf("Add(%v, %v) is %v, %t", a, b, got, ok)
			}
			want, fits = pair(new(big.Int).Sub(value(a), value(b)))
			if got, ok := wide.Sub(a, b); got != want || ok != fits {
				t.Errorf("Sub(%v, %v) is %v, %t", a, b, got, ok)
			}
			if got := wide.Less(a, b); got != (value(a).Cmp(value(b)) < 0) {
				t.Errorf("Less(%v, %v) is %t", a, b, got)
			}
		}
	}
}

func TestSumsNamed(t *testing.T) {
	for _, x := range []struct {
		name string
		call func(a, b int64) (int64, bool)
		a, b int64
		want int64
		ok   bool
	}{
		{"2 and 3", wide.Plus, 2, 3, 5, true},
		{"2^63-1 and 0", wide.Plus, most, 0, most, true},
		{"2^63-1 and 1", wide.Plus, most, 1, 0, false},
		{"2^63-1 twice", wide.Plus, most, most, 0, false},
		{"2^63-1 and -2^63", wide.Plus, most, least, -1, true},
		{"-2^63 and 0", wide.Plus, least, 0, least, true},
		{"-2^63 and -1", wide.Plus, least, -1, 0, false},
		{"-2^63 twice", wide.Plus, least, least, 0, false},
		{"-2^62 twice", wide.Plus, -1 << 62, -1 << 62, least, true},
		{"2^62 twice", wide.Plus, 1 << 62, 1 << 62, 0, false},
		{"2 less 3", wide.Minus, 2, 3, -1, true},
		{"0 less -2^63", wide.Minus, 0, least, 0, false},
		{"0 less 2^63-1", wide.Minus, 0, most, least + 1, true},
		{"-1 less -2^63", wide.Minus, -1, least, most, true},
		{"-1 less 2^63-1", wide.Minus, -1, most, least, true},
		{"-2 less 2^63-1", wide.Minus, -2, most, 0, false},
		{"-2^63 less 1", wide.Minus, least, 1, 0, false},
		{"-2^63 less 0", wide.Minus, least, 0, least, true},
		{"-2^63 less itself", wide.Minus, least, least, 0, true},
		{"2^63-1 less -1", wide.Minus, most, -1, 0, false},
		{"2^63-1 less itself", wide.Minus, most, most, 0, true},
	} {
		if got, ok := x.call(x.a, x.b); got != x.want || ok != x.ok {
			t.Errorf("%s is %d, %t", x.name, got, ok)
		}
	}
}

func TestPairsOfAll(t *testing.T) {
	for _, a := range narrows() {
		for _, b := range narrows() {
			product, _ := pair(new(big.Int).Mul(big.NewInt(a), big.NewInt(b)))
			if got := wide.Times(a, b); got != product {
				t.Errorf("Times(%d, %d) is %v, not %v", a, b, got, product)
			}
			want, fits := narrow(new(big.Int).Add(big.NewInt(a), big.NewInt(b)))
			if got, ok := wide.Plus(a, b); got != want || ok != fits {
				t.Errorf("Plus(%d, %d) is %d, %t", a, b, got, ok)
			}
			want, fits = narrow(new(big.Int).Sub(big.NewInt(a), big.NewInt(b)))
			if got, ok := wide.Minus(a, b); got != want || ok != fits {
				t.Errorf("Minus(%d, %d) is %d, %t", a, b, got, ok)
			}
		}
	}
}

func TestSumNamed(t *testing.T) {
	for _, x := range []struct {
		name string
		l    []int64
		want int64
		ok   bool
	}{
		{"nil", nil, 0, true},
		{"none", []int64{}, 0, true},
		{"one", []int64{least}, least, true},
		{"three", []int64{1, 2, 3}, 6, true},
		// The chapter's example.
		{"2^63-1, 1, -1", []int64{most, 1, -1}, most, true},
		{"1, 2^63-1, -1", []int64{1, most, -1}, most, true},
		{"-2^63, -1, 1", []int64{least, -1, 1}, least, true},
		{"2^63-1, 1", []int64{most, 1}, 0, false},
		{"-2^63, -1", []int64{least, -1}, 0, false},
		{"-2^63 and 2^63-1, twice each", []int64{least, least, most, most}, -2, true},
		// Within sixty-four bits these would go round to 0, and to -2.
		{"-2^63, twice", []int64{least, least}, 0, false},
		{"2^63-1, twice", []int64{most, most}, 0, false},
		{"2^62, four times", []int64{1 << 62, 1 << 62, 1 << 62, 1 << 62}, 0, false},
	} {
		if got, ok := wide.Sum(x.l); got != x.want || ok != x.ok {
			t.Errorf("Sum of %s is %d, %t", x.name, got, ok)
		}
	}
}

// Many numbers of one sign go far beyond sixty-four bits before they come back.
func TestSumOfMany(t *testing.T) {
	l := slices.Concat(slices.Repeat([]int64{most}, 1000), slices.Repeat([]int64{-most}, 1000), []int64{5})
	if got, ok := wide.Sum(l); got != 5 || !ok {
		t.Errorf("the sum is %d, %t", got, ok)
	}
	if got, ok := wide.Sum(l[:1000]); got != 0 || ok {
		t.Errorf("the sum of the first half is %d, %t", got, ok)
	}
	if got, ok := wide.Sum(l[1000:]); got != 0 || ok {
		t.Errorf("the sum of the second half is %d, %t", got, ok)
	}
}

func TestSumOfAll(t *testing.T) {
	all := narrows()
	for from := range all {
		for to := from; to <= len(all); to++ {
			want := new(big.Int)
			for _, n := range all[from:to] {
				want.Add(want, big.NewInt(n))
			}
			number, fits := narrow(want)
			if got, ok := wide.Sum(all[from:to]); got != number || ok != fits {
				t.Errorf("the sum of the numbers from %d to %d is %d, %t", from, to, got, ok)
			}
		}
	}
}

func TestSumLeavesItsList(t *testing.T) {
	l := []int64{most, 1, -1, least}
	was := slices.Clone(l)
	wide.Sum(l)
	if !slices.Equal(l, was) {
		t.Errorf("the list has become %v", l)
	}
}

// The chapter's section "What follows".
func TestWhatFollows(t *testing.T) {
	l := []int64{most, most, 1, -1, least, least, 2, most}
	want, fits := wide.Sum(l)
	if want != most || !fits {
		t.Errorf("the sum is %d, %t", want, fits)
	}
	for turn := range len(l) {
		// An odd step comes by each of the eight once.
		for step := 1; step < len(l); step += 2 {
			var other []int64
			for i := range l {
				other = append(other, l[(turn+i*step)%len(l)])
			}
			if got, ok := wide.Sum(other); got != want || ok != fits {
				t.Errorf("the sum of %v is %d, %t", other, got, ok)
			}
		}
	}
	for _, a := range wides() {
		for _, b := range wides() {
			sum, ok := wide.Add(a, b)
			other, is := wide.Add(b, a)
			if sum != other || ok != is {
				t.Errorf("the sum of %v and %v hangs on the order", a, b)
			}
		}
	}
}
