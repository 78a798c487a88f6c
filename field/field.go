// Package field is layer 1: numbers modulo the prime P (doc/01-field.md).
// Every number handed in counts as its rest modulo P; every answer is from 0 to P-1.
package field

import "math/bits"

// P is the prime (A1).
const P = 1<<61 - 1

// Fold tells x modulo P (A1).
func Fold(x uint64) uint64 {
	// 2^61 is 1 modulo P, so the three highest bits count as ones of their own.
	// What they come to is at most P+7: to take P away once is enough.
	sum := x>>61 + x&P
	if sum >= P {
		return sum - P
	}
	return sum
}

// Add tells the sum modulo P (A1).
func Add(a, b uint64) uint64 {
	return Fold(Fold(a) + Fold(b))
}

// Sub tells the difference modulo P (A1).
func Sub(a, b uint64) uint64 {
	// P goes ahead, so that nothing falls below 0.
	return Fold(P + Fold(a) - Fold(b))
}

// Mul tells the product modulo P (A2).
func Mul(a, b uint64) uint64 {
	hi, lo := bits.Mul64(Fold(a), Fold(b))
	// The product is below 2^122: its bits from 61 on are below 2^61, and, since
	// 2^61 is 1 modulo P, are added to the 61 lowest ones without going round.
	return Fold((hi<<3 | lo>>61) + lo&P)
}

// Pow tells a to the power of n modulo P (A2).
func Pow(a, n uint64) uint64 {
	power := uint64(1)
	square := Fold(a)
gather:
	for {
		switch {
		case n == 0:
			break gather
		case n&1 == 1:
			power = Mul(power, square)
		}
		square = Mul(square, square)
		n >>= 1
	}
	return power
}

// Inv tells the number that, times a, is 1 modulo P; 0, if a is 0 (A2).
func Inv(a uint64) uint64 {
	// A number other than 0 to the power of P-1 is 1, since P is prime.
	return Pow(a, P-2)
}
