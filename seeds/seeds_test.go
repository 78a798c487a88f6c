package seeds_test

import (
	"math"
	"math/big"
	"testing"

	"gauger/field"
	"gauger/seeds"
	"gauger/strewn"
)

const (
	p      = field.P
	full   = 1<<64 - 1
	stride = 0x9E3779B97F4A7C15
)

// samples has the edges of sixty-four bits, each bit alone and all below it, and
// numbers strewn between them.
func samples() []uint64 {
	all := []uint64{
		0, 3, 5, 12345, p - 1, p, p + 1, full - 1, full,
		stride, 0xBF58476D1CE4E5B9, 0x94D049BB133111EB, 0x123456789ABCDEF0,
	}
	for bit := range 64 {
		all = append(all, 1<<bit, 1<<bit-1, full<<bit)
	}
	return append(all, strewn.Numbers(500)...)
}

func whole(x uint64) *big.Int { return new(big.Int).SetUint64(x) }

// round tells a whole number, gone round at 2^64.
func round(n *big.Int) *big.Int { return new(big.Int).And(n, whole(full)) }

// mixed tells Mix as the chapter says it, by another way than the package does.
func mixed(z uint64) uint64 {
	n := whole(z)
	n.Xor(n, new(big.Int).Rsh(n, 30))
	n = round(n.Mul(n, whole(0xBF58476D1CE4E5B9)))
	n.Xor(n, new(big.Int).Rsh(n, 27))
	n = round(n.Mul(n, whole(0x94D049BB133111EB)))
	n.Xor(n, new(big.Int).Rsh(n, 31))
	return n.Uint64()
}

// drawn tells Draw as the chapter says it.
func drawn(seed, i uint64) uint64 {
	n := new(big.Int).Add(whole(i), big.NewInt(1))
	n.Mul(n, whole(stride))
	return mixed(round(n.Add(n, whole(seed))).Uint64())
}

// paired tells Pair, of a level and a row that may be, as the chapter says it.
func paired(seed uint64, level, row int) (a, b uint64) {
	n := uint64(2 * (8*level + row))
	less := new(big.Int).Mod(whole(drawn(seed, n)), whole(p-1))
	return 1 + less.Uint64(), new(big.Int).Mod(whole(drawn(seed, n+1)), whole(p)).Uint64()
}

// seedOf tells the seed whose number i is want.
func seedOf(t *testing.T, want, i uint64) uint64 {
	seed := seeds.Unmix(want) - (i+1)*stride
	if got := drawn(seed, i); got != want {
		t.Fatalf("the number %d of the seed %x is %x, not %x", i, seed, got, want)
	}
	return seed
}

func TestMixNamed(t *testing.T) {
	for _, x := range []struct{ z, want uint64 }{
		{0, 0},
		{1, 0x5692161D100B05E5},
		{stride, 0xE220A8397B1DCDAF},
		{full, 0xB4D055FCF2CBBD7B},
	} {
		if got := seeds.Mix(x.z); got != x.want {
			t.Errorf("Mix(%x) is %x, not %x", x.z, got, x.want)
		}
		if got := seeds.Unmix(x.want); got != x.z {
			t.Errorf("Unmix(%x) is %x, not %x", x.want, got, x.z)
		}
	}
}

func TestMixOfAll(t *testing.T) {
	for _, z := range samples() {
		if got, want := seeds.Mix(z), mixed(z); got != want {
			t.Errorf("Mix(%x) is %x, not %x", z, got, want)
		}
	}
}

func TestUnmixOfAll(t *testing.T) {
	for _, z := range samples() {
		if got := seeds.Unmix(mixed(z)); got != z {
			t.Errorf("%x, mixed and unmixed, is %x", z, got)
		}
		if got := mixed(seeds.Unmix(z)); got != z {
			t.Errorf("%x, unmixed and mixed, is %x", z, got)
		}
	}
}

func TestDrawNamed(t *testing.T) {
	for _, x := range []struct{ seed, i, want uint64 }{
		{0, 0, 0xE220A8397B1DCDAF},
		{0, 1, 0x6E789E6AA1B965F4},
		{0, 2, 0x06C45D188009454F},
		{0, 3, 0xF88BB8A8724C81EC},
		{1234567, 0, 6457827717110365317},
		{1234567, 1, 3203168211198807973},
		{1234567, 2, 9817491932198370423},
		// The seed counts as so many draws ahead.
		{stride, 0, 0x6E789E6AA1B965F4},
		// i+1 goes round to 0, so that the seed alone is mixed.
		{0, full, 0},
		{stride, full, 0xE220A8397B1DCDAF},
		// -1 times the stride, and the sum of it and the seed goes round to 0.
		{stride, full - 1, 0},
		{full - stride + 1, 0, 0},
		{full, full, 0xB4D055FCF2CBBD7B},
	} {
		if got := seeds.Draw(x.seed, x.i); got != x.want {
			t.Errorf("Draw(%x, %x) is %x, not %x", x.seed, x.i, got, x.want)
		}
	}
}

func TestDrawOfAll(t *testing.T) {
	all := samples()
	for _, seed := range all[:64] {
		for _, i := range all {
			if got, want := seeds.Draw(seed, i), drawn(seed, i); got != want {
				t.Errorf("Draw(%x, %x) is %x, not %x", seed, i, got, want)
			}
		}
	}
}

func TestPairOfAllRows(t *testing.T) {
	for _, seed := range []uint64{0, 1, 7, stride, 1 << 63, full} {
		for level := 0; level <= 59; level++ {
			for row := 0; row <= 7; row++ {
				a, b := seeds.Pair(seed, level, row)
				wantA, wantB := paired(seed, level, row)
				if a != wantA || b != wantB {
					t.Errorf("Pair(%x, %d, %d) is %d, %d, not %d, %d", seed, level, row, a, b, wantA, wantB)
				}
			}
		}
	}
}

// What is left is told at the edges: of the draw that a hangs on, and of the next
// one, that b hangs on.
func TestPairOfWhatIsLeft(t *testing.T) {
	for _, x := range []struct{ draw, a, b uint64 }{
		{0, 1, 0},
		{1, 2, 1},
		{p - 3, p - 2, p - 3},
		{p - 2, p - 1, p - 2},
		{p - 1, 1, p - 1},
		{p, 2, 0},
		{p + 1, 3, 1},
		{2*p - 3, p - 1, p - 3},
		{2*p - 2, 1, p - 2},
		{2*p - 1, 2, p - 1},
		{2 * p, 3, 0},
		{8*p - 8, 1, p - 8},
		{8 * p, 9, 0},
		{full, 16, 7},
	} {
		for _, r := range []struct{ level, row int }{{0, 0}, {0, 7}, {1, 0}, {3, 5}, {59, 0}, {59, 7}} {
			n := uint64(16*r.level + 2*r.row)
			if a, _ := seeds.Pair(seedOf(t, x.draw, n), r.level, r.row); a != x.a {
				t.Errorf("of the draw %d at level %d, row %d: a is %d, not %d", x.draw, r.level, r.row, a, x.a)
			}
			if _, b := seeds.Pair(seedOf(t, x.draw, n+1), r.level, r.row); b != x.b {
				t.Errorf("of the draw %d at level %d, row %d: b is %d, not %d", x.draw, r.level, r.row, b, x.b)
			}
		}
	}
}

func TestPairOfNoRow(t *testing.T) {
	beyond := []int{-1, -2, -59, 60, 61, 64, 1 << 32, 1 << 60, -1 << 60, math.MaxInt, math.MinInt}
	for _, seed := range []uint64{0, 5, full} {
		for _, x := range beyond {
			for _, y := range []int{0, 1, 7, 8, -1, 59} {
				if a, b := seeds.Pair(seed, x, y); a != 0 || b != 0 {
					t.Errorf("Pair(%x, %d, %d) is %d, %d", seed, x, y, a, b)
				}
				if a, b := seeds.Pair(seed, y, x); a != 0 || b != 0 {
					t.Errorf("Pair(%x, %d, %d) is %d, %d", seed, y, x, a, b)
				}
			}
		}
		for level := range 60 {
			for _, row := range []int{-1, 8, 9, 16} {
				if a, b := seeds.Pair(seed, level, row); a != 0 || b != 0 {
					t.Errorf("Pair(%x, %d, %d) is %d, %d", seed, level, row, a, b)
				}
			}
		}
	}
}

// The chapter's section "What follows".
func TestWhatFollows(t *testing.T) {
	from := map[uint64]uint64{}
	for _, z := range samples() {
		m := seeds.Mix(z)
		if other, ok := from[m]; ok && other != z {
			t.Errorf("%x and %x are both mixed to %x", other, z, m)
		}
		from[m] = z
	}
}
