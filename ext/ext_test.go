package ext_test

import (
	"math"
	"math/big"
	"testing"

	"attestor/api"
	"attestor/ext"
	"attestor/field"
)

const p = uint64(api.Prime)

var bigPrime = new(big.Int).SetUint64(p)

// components returns field elements at which reductions happen or just fail to happen, and some without a pattern.
func components() []uint64 {
	l := []uint64{0, 1, 2, 3, 7, 1<<32 - 1, 1 << 32, 1<<32 + 1, p >> 1, 1 << 63, p - 1<<32, p - 7, p - 2, p - 1}
	x := uint64(1)
	for range 4 {
		x = x*6364136223846793005 + 1442695040888963407
		l = append(l, x%p)
	}
	return l
}

// elements returns all pairs of components, elements of the base field and multiples of X among them.
func elements() []api.Ext {
	var l []api.Ext
	for _, a := range components() {
		for _, b := range components() {
			l = append(l, api.Ext{A: a, B: b})
		}
	}
	return l
}

// some returns a few of the elements, for tests of triples.
func some() []api.Ext {
	all := elements()
	var l []api.Ext
	for i := 0; i < len(all); i += 11 {
		l = append(l, all[i])
	}
	return append(l, all[1], all[len(all)-1])
}

// integers returns signed integers of all sizes.
func integers() []int64 {
	l := []int64{0, 1, -1, 59, -27, 1 << 32, -1 << 32, 1<<62 + 12345, math.MaxInt64 - 1, math.MaxInt64}
	return append(l, math.MinInt64, math.MinInt64+1, -0x123456789abcdef0)
}

// exponents returns exponents of all sizes, with single bits, all bits and no bits.
func exponents() []uint64 {
	l := []uint64{0, 1, 2, 3, 4, 5, 63, 64, 1<<32 - 1, 1 << 32, 1<<63 - 1, 1 << 63, 0x123456789abcdef0}
	return append(l, p-2, p-1, p, p+1, math.MaxUint64-1, math.MaxUint64)
}

func word(x uint64) *big.Int { return new(big.Int).SetUint64(x) }

// residue returns the representative of x in 0..p-1.
func residue(x *big.Int) uint64 { return new(big.Int).Mod(x, bigPrime).Uint64() }

func sum(x *big.Int, y *big.Int) *big.Int     { return new(big.Int).Add(x, y) }
func product(x *big.Int, y *big.Int) *big.Int { return new(big.Int).Mul(x, y) }

// slowMul is the product in large integers.
func slowMul(a api.Ext, b api.Ext) api.Ext {
	aa, ab, ba, bb := word(a.A), word(a.B), word(b.A), word(b.B)
	return api.Ext{
		A: residue(sum(product(aa, ba), product(big.NewInt(7), product(ab, bb)))),
		B: residue(sum(product(aa, bb), product(ab, ba))),
	}
}

// slowPow is the power by squaring in large integers, from the least significant bit upward.
func slowPow(a api.Ext, n *big.Int) api.Ext {
	result := api.Ext{A: 1}
	for k := range n.BitLen() {
		if n.Bit(k) == 1 {
			result = slowMul(result, a)
		}
		a = slowMul(a, a)
	}
	return result
}

func check(t *testing.T, call string, got api.Ext, want api.Ext) {
	t.Helper()
	if got != want {
		t.Fatalf("%s = %v, want %v", call, got, want)
	}
}

// B1: Valid is defined for all pairs of words and looks at both components.
func TestValid(t *testing.T) {
	words := append(components(), p, p+1, p+7, math.MaxUint64-1, math.MaxUint64)
	for _, a := range words {
		for _, b := range words {
			if got, want := ext.Valid(api.Ext{A: a, B: b}), a < p && b < p; got != want {
				t.Errorf("Valid(%d + %d X) = %v, want %v", a, b, got, want)
			}
		}
	}
}

// B1: only one element is zero.
func TestIsZero(t *testing.T) {
	for _, a := range elements() {
		if got, want := ext.IsZero(a), a.A == 0 && a.B == 0; got != want {
			t.Errorf("IsZero(%v) = %v, want %v", a, got, want)
		}
	}
}

// B1: field elements and all integers are embedded with the component B = 0.
func TestFromBaseAndFromInt(t *testing.T) {
	for _, a := range components() {
		check(t, "FromBase", ext.FromBase(a), api.Ext{A: a})
	}
	for _, n := range integers() {
		check(t, "FromInt", ext.FromInt(n), api.Ext{A: residue(big.NewInt(n))})
		check(t, "FromInt", ext.FromInt(n), ext.FromBase(field.FromInt(n)))
	}
}

// B2: sums, differences, products and negatives are those of the integers modulo the order and X^2 - 7.
func TestArithmetic(t *testing.T) {
	l := elements()
	for _, a := range l {
		minus := api.Ext{A: residue(new(big.Int).Neg(word(a.A))), B: residue(new(big.Int).Neg(word(a.B)))}
		check(t, "Neg", ext.Neg(a), minus)
		for _, b := range l {
			check(t, "Add", ext.Add(a, b), api.Ext{A: residue(sum(word(a.A), word(b.A))), B: residue(sum(word(a.B), word(b.B)))})
			difference := api.Ext{
				A: residue(new(big.Int).Sub(word(a.A), word(b.A))),
				B: residue(new(big.Int).Sub(word(a.B), word(b.B))),
			}
			check(t, "Sub", ext.Sub(a, b), difference)
			if got, want := ext.Mul(a, b), slowMul(a, b); got != want {
				t.Fatalf("Mul(%v, %v) = %v, want %v", a, b, got, want)
			}
		}
	}
}

// B2: products with many different bit patterns.
func TestManyProducts(t *testing.T) {
	a, b := api.Ext{A: 3, B: p - 5}, api.Ext{A: 1 << 40, B: 11}
	for range 50000 {
		want := slowMul(a, b)
		if got := ext.Mul(a, b); got != want {
			t.Fatalf("Mul(%v, %v) = %v, want %v", a, b, got, want)
		}
		// A fixed sequence: the product replaces one factor, and the step of a generator replaces the other.
		next := b.A*6364136223846793005 + 1442695040888963407
		a, b = want, api.Ext{A: next % p, B: b.A}
	}
}

// B2: both components are multiplied by the field element.
func TestMulBase(t *testing.T) {
	for _, a := range elements() {
		for _, b := range components() {
			want := api.Ext{A: residue(product(word(a.A), word(b))), B: residue(product(word(a.B), word(b)))}
			check(t, "MulBase", ext.MulBase(a, b), want)
		}
	}
}

// B3: the conjugate has the other sign of X only.
func TestConj(t *testing.T) {
	for _, a := range elements() {
		check(t, "Conj", ext.Conj(a), api.Ext{A: a.A, B: residue(new(big.Int).Neg(word(a.B)))})
	}
}

// B3: every element but zero has an inverse, also the multiples of X, whose component A is zero.
func TestInv(t *testing.T) {
	for _, a := range elements() {
		got, err := ext.Inv(a)
		if a == (api.Ext{}) {
			if got != (api.Ext{}) || err != api.ErrZero {
				t.Errorf("Inv(0) = %v, %d, want zero and ErrZero", got, err)
			}
			continue
		}
		if err != api.OK || slowMul(a, got) != (api.Ext{A: 1}) || !ext.Valid(got) {
			t.Errorf("Inv(%v) = %v, %d", a, got, err)
		}
	}
}

// B3: the exponent is an arbitrary word, and the power 0 is one, also of zero.
func TestPow(t *testing.T) {
	for _, a := range some() {
		for _, n := range exponents() {
			if got, want := ext.Pow(a, n), slowPow(a, word(n)); got != want {
				t.Errorf("Pow(%v, %d) = %v, want %v", a, n, got, want)
			}
		}
	}
	for _, a := range elements() {
		check(t, "Pow(a, 0)", ext.Pow(a, 0), api.Ext{A: 1})
		check(t, "Pow(a, 1)", ext.Pow(a, 1), a)
		check(t, "Pow(a, 2)", ext.Pow(a, 2), slowMul(a, a))
	}
	check(t, "Pow(0, 0)", ext.Pow(api.Ext{}, 0), api.Ext{A: 1})
	check(t, "Pow(0, 5)", ext.Pow(api.Ext{}, 5), api.Ext{})
}

// The examples of the chapter.
func TestExamples(t *testing.T) {
	check(t, "Mul", ext.Mul(api.Ext{A: 1, B: 2}, api.Ext{A: 3, B: 4}), api.Ext{A: 59, B: 10})
	check(t, "Conj", ext.Conj(api.Ext{A: 59, B: 10}), api.Ext{A: 59, B: p - 10})
	check(t, "Mul", ext.Mul(api.Ext{A: 1, B: 2}, ext.Conj(api.Ext{A: 1, B: 2})), api.Ext{A: p - 27})
	check(t, "the square of X", ext.Mul(api.Ext{B: 1}, api.Ext{B: 1}), ext.FromInt(7))
}
