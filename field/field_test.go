package field_test

import (
	"math"
	"math/big"
	"testing"

	"attestor/api"
	"attestor/field"
)

const p = uint64(api.Prime)

var bigPrime = new(big.Int).SetUint64(p)

// words returns words at which carries, borrows and the final subtraction of a reduction happen or just fail to happen,
// some of them not field elements, and some words without a pattern.
func words() []uint64 {
	var l []uint64
	for _, x := range []uint64{0, 7, 1 << 16, 1 << 31, 1 << 32, 1 << 33, 1 << 48, 1 << 63, p >> 1, p - 1<<32, p} {
		l = append(l, x-2, x-1, x, x+1, x+2)
	}
	x := uint64(1)
	for range 16 {
		x = x*6364136223846793005 + 1442695040888963407
		l = append(l, x)
	}
	return l
}

// elements returns the words that are field elements.
func elements() []uint64 {
	var l []uint64
	for _, x := range words() {
		if x < p {
			l = append(l, x)
		}
	}
	return l
}

// integers returns signed integers of all sizes.
func integers() []int64 {
	var l []int64
	for _, x := range words() {
		l = append(l, int64(x))
	}
	return append(l, math.MinInt64, math.MinInt64+1, math.MaxInt64-1, math.MaxInt64)
}

func word(x uint64) *big.Int { return new(big.Int).SetUint64(x) }

// residue returns the representative of x in 0..p-1.
func residue(x *big.Int) uint64 { return new(big.Int).Mod(x, bigPrime).Uint64() }

// A1: Valid and Reduce are defined for all words, also for those that are not field elements.
func TestValidAndReduce(t *testing.T) {
	for _, x := range words() {
		if got, want := field.Valid(x), x < p; got != want {
			t.Errorf("Valid(%d) = %v, want %v", x, got, want)
		}
		if got, want := field.Reduce(x), x%p; got != want {
			t.Errorf("Reduce(%d) = %d, want %d", x, got, want)
		}
	}
	if !field.Valid(p-1) || field.Valid(p) || field.Valid(math.MaxUint64) {
		t.Error("Valid is wrong at the order or at the largest word")
	}
}

// A1: FromInt is defined for all integers.
func TestFromInt(t *testing.T) {
	for _, n := range integers() {
		if got, want := field.FromInt(n), residue(big.NewInt(n)); got != want {
			t.Errorf("FromInt(%d) = %d, want %d", n, got, want)
		}
	}
}

// A2: sums, differences, negatives and products are those of the integers modulo the order.
func TestArithmetic(t *testing.T) {
	for _, a := range elements() {
		if got, want := field.Neg(a), residue(new(big.Int).Neg(word(a))); got != want {
			t.Errorf("Neg(%d) = %d, want %d", a, got, want)
		}
		for _, b := range elements() {
			if got, want := field.Add(a, b), residue(new(big.Int).Add(word(a), word(b))); got != want {
				t.Errorf("Add(%d, %d) = %d, want %d", a, b, got, want)
			}
			if got, want := field.Sub(a, b), residue(new(big.Int).Sub(word(a), word(b))); got != want {
				t.Errorf("Sub(%d, %d) = %d, want %d", a, b, got, want)
			}
			if got, want := field.Mul(a, b), residue(new(big.Int).Mul(word(a), word(b))); got != want {
				t.Errorf("Mul(%d, %d) = %d, want %d", a, b, got, want)
			}
		}
	}
}

// A2: products with many different bit patterns.
func TestManyProducts(t *testing.T) {
	x, y := uint64(3), p-5
	for range 200000 {
		want := residue(new(big.Int).Mul(word(x), word(y)))
		if got := field.Mul(x, y); got != want {
			t.Fatalf("Mul(%d, %d) = %d, want %d", x, y, got, want)
		}
		// A fixed sequence: the product replaces one factor, and the step of a generator replaces the other.
		x, y = want, (y*6364136223846793005+1442695040888963407)%p
	}
}

// A3: the exponent is an arbitrary word.
func TestPow(t *testing.T) {
	for _, a := range elements() {
		for _, n := range words() {
			want := new(big.Int).Exp(word(a), word(n), bigPrime).Uint64()
			if got := field.Pow(a, n); got != want {
				t.Errorf("Pow(%d, %d) = %d, want %d", a, n, got, want)
			}
		}
		if got := field.Pow(a, 0); got != 1 {
			t.Errorf("Pow(%d, 0) = %d, want 1", a, got)
		}
	}
	if got := field.Pow(0, 5); got != 0 {
		t.Errorf("Pow(0, 5) = %d, want 0", got)
	}
}

// A4: every element but 0 has an inverse.
func TestInv(t *testing.T) {
	for _, a := range elements() {
		got, err := field.Inv(a)
		if a == 0 {
			if got != 0 || err != api.ErrZero {
				t.Errorf("Inv(0) = %d, %d, want 0 and ErrZero", got, err)
			}
			continue
		}
		if want := new(big.Int).ModInverse(word(a), bigPrime).Uint64(); got != want || err != api.OK {
			t.Errorf("Inv(%d) = %d, %d, want %d and OK", a, got, err, want)
		}
	}
}

// A5: the roots are these powers of 7, and no other k is allowed.
func TestRoot(t *testing.T) {
	for k := 0; k <= 32; k++ {
		n := new(big.Int).Rsh(word(p-1), uint(k))
		want := new(big.Int).Exp(big.NewInt(7), n, bigPrime).Uint64()
		if got, err := field.Root(k); got != want || err != api.OK {
			t.Errorf("Root(%d) = %d, %d, want %d and OK", k, got, err, want)
		}
	}
	for _, k := range []int{math.MinInt, -64, -1, 33, 64, math.MaxInt} {
		if got, err := field.Root(k); got != 0 || err != api.ErrArg {
			t.Errorf("Root(%d) = %d, %d, want 0 and ErrArg", k, got, err)
		}
	}
}

// The examples of the chapter, and the first example of the document.
func TestExamples(t *testing.T) {
	if got := field.Add(p-1, 2); got != 1 {
		t.Errorf("Add(p - 1, 2) = %d", got)
	}
	if got := field.Mul(1<<32, 1<<32); got != 4294967295 {
		t.Errorf("Mul(2^32, 2^32) = %d", got)
	}
	if got, err := field.Inv(2); got != 9223372034707292161 || err != api.OK {
		t.Errorf("Inv(2) = %d, %d", got, err)
	}
	if got, err := field.Root(1); got != p-1 || err != api.OK {
		t.Errorf("Root(1) = %d, %d", got, err)
	}
}
