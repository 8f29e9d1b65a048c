// Package field is layer 1: arithmetic in the prime field of 2^64 - 2^32 + 1 elements. See shared/doc/01-field.md.
package field

import "attestor/api"

const (
	order     uint64 = api.Prime
	epsilon   uint64 = 1<<32 - 1 // 2^64 modulo the order, and the mask of the lower half of a word
	generator uint64 = 7         // of the multiplicative group
	maxRoot          = 32        // 2^32 is the largest power of two that divides order - 1
)

// Valid reports whether a is a field element.
func Valid(a uint64) bool { return a < order }

// Reduce returns x modulo the order.
func Reduce(x uint64) uint64 {
	// Every 64-bit integer is less than twice the order.
	if x >= order {
		x -= order
	}
	return x
}

// FromInt returns the field element of an integer.
func FromInt(n int64) uint64 {
	if n < 0 {
		// The sum wraps around to order - |n|, which is a field element because |n| is at most 2^63.
		return order + uint64(n)
	}
	return uint64(n)
}

// Add returns a + b.
func Add(a uint64, b uint64) uint64 {
	s := a + b
	// If the sum has wrapped around, the subtraction wraps around too and restores the lost bit.
	if s < a || s >= order {
		s -= order
	}
	return s
}

// Sub returns a - b.
func Sub(a uint64, b uint64) uint64 {
	d := a - b
	if a < b {
		d += order
	}
	return d
}

// Neg returns -a.
func Neg(a uint64) uint64 { return Sub(0, a) }

// Mul returns a * b.
func Mul(a uint64, b uint64) uint64 { return reduceWide(high(a, b), a*b) }

// high returns the upper word of the product of two words. (The chapter rules out the import of math/bits.)
func high(a uint64, b uint64) uint64 {
	a0, a1 := a&epsilon, a>>32
	b0, b1 := b&epsilon, b>>32
	// Neither sum wraps around: a product of half words leaves room for one more half word.
	t := a1*b0 + a0*b0>>32
	u := a0*b1 + t&epsilon
	return a1*b1 + t>>32 + u>>32
}

// reduceWide returns hi * 2^64 + lo modulo the order. It needs no division because 2^96 is congruent to -1 and 2^64 to
// epsilon: the upper half of hi is subtracted from lo, and its lower half counts epsilon times.
func reduceWide(hi uint64, lo uint64) uint64 {
	d := lo - hi>>32
	if lo < hi>>32 {
		// The difference has gained 2^64, so that it is at least 2^64 - epsilon.
		d -= epsilon
	}
	s := d + (hi&epsilon)*epsilon
	if s < d {
		// The sum has lost 2^64, so that it is less than epsilon * epsilon.
		s += epsilon
	}
	return Reduce(s)
}

// Pow returns a to the power of n.
func Pow(a uint64, n uint64) uint64 { return power(a, n, 1, Mul) }

// power returns the n-th power of base for an associative multiplication with the neutral element one.
func power[T any](base T, n uint64, one T, mul func(T, T) T) T {
	result := one
	for ; n > 0; n >>= 1 {
		if n&1 == 1 {
			result = mul(result, base)
		}
		base = mul(base, base)
	}
	return result
}

// Inv returns the inverse of a.
func Inv(a uint64) (uint64, api.Errno) {
	// Euclid's algorithm for the order and a: each remainder is congruent to its factor times a.
	last, rest := order, a
	lastFactor, factor := uint64(0), uint64(1)
	divide := func() {
		q := last / rest
		last, rest = rest, last-q*rest
		lastFactor, factor = factor, Sub(lastFactor, Mul(q, factor))
	}
euclid:
	for {
		switch rest {
		case 0:
			return 0, api.ErrZero
		case 1:
			break euclid
		default:
			divide()
		}
	}
	return factor, api.OK
}

// Root returns a primitive root of unity of order 2^k.
func Root(k int) (uint64, api.Errno) {
	if k < 0 || k > maxRoot {
		return 0, api.ErrArg
	}
	return Pow(generator, (order-1)>>k), api.OK
}
