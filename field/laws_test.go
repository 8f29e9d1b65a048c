package field_test

import (
	"math"
	"math/big"
	"slices"
	"sync"
	"testing"

	"attestor/api"
	"attestor/field"
)

// P1.1: for field elements, all integers and all exponents, every result is a field element.
func TestResultsAreElements(t *testing.T) {
	for _, r := range results(elements(), words()) {
		if r >= p {
			t.Fatalf("a result is %d, which is no field element", r)
		}
	}
}

// results calls every function with the field elements l and the words w, and collects everything they return.
func results(l []uint64, w []uint64) []uint64 {
	var out []uint64
	for _, x := range w {
		valid := uint64(0)
		if field.Valid(x) {
			valid = 1
		}
		out = append(out, valid, field.Reduce(x), field.FromInt(int64(x)))
	}
	for i, a := range l {
		b := l[len(l)-1-i]
		inverse, err := field.Inv(a)
		out = append(out, field.Add(a, b), field.Sub(a, b), field.Neg(a), field.Mul(a, b), inverse, uint64(err))
		out = append(out, field.Pow(a, w[i%len(w)]))
	}
	for k := -2; k < 36; k++ {
		root, err := field.Root(k)
		out = append(out, root, uint64(err))
	}
	return out
}

// P1.2: commutative laws, neutral elements, negatives and inverses.
func TestFieldAxioms(t *testing.T) {
	for _, a := range elements() {
		if field.Add(a, 0) != a || field.Mul(a, 1) != a || field.Mul(a, 0) != 0 || field.Sub(a, 0) != a {
			t.Errorf("0 or 1 is not neutral for %d", a)
		}
		if field.Add(a, field.Neg(a)) != 0 || field.Neg(field.Neg(a)) != a || field.Sub(a, a) != 0 {
			t.Errorf("Neg(%d) is not the negative", a)
		}
		if inverse, err := field.Inv(a); a != 0 && (err != api.OK || field.Mul(a, inverse) != 1) {
			t.Errorf("Inv(%d) is not the inverse", a)
		}
		for _, b := range elements() {
			if field.Add(a, b) != field.Add(b, a) || field.Mul(a, b) != field.Mul(b, a) {
				t.Errorf("%d and %d do not commute", a, b)
			}
			if field.Sub(a, b) != field.Add(a, field.Neg(b)) || field.Add(field.Sub(a, b), b) != a {
				t.Errorf("Sub(%d, %d) is not the difference", a, b)
			}
			if (field.Mul(a, b) == 0) != (a == 0 || b == 0) {
				t.Errorf("%d or %d is a zero divisor", a, b)
			}
		}
	}
}

// P1.2: associative laws and the distributive law.
func TestAxiomsOfThree(t *testing.T) {
	l := elements()
	for _, a := range l {
		for _, b := range l {
			for _, c := range l {
				if field.Add(field.Add(a, b), c) != field.Add(a, field.Add(b, c)) {
					t.Fatalf("addition of %d, %d and %d is not associative", a, b, c)
				}
				if field.Mul(field.Mul(a, b), c) != field.Mul(a, field.Mul(b, c)) {
					t.Fatalf("multiplication of %d, %d and %d is not associative", a, b, c)
				}
				if field.Mul(a, field.Add(b, c)) != field.Add(field.Mul(a, b), field.Mul(a, c)) {
					t.Fatalf("multiplication by %d does not distribute over %d + %d", a, b, c)
				}
			}
		}
	}
}

// P1.3: exponents add up as long as their sum does not wrap around, and the power p changes nothing.
func TestPowers(t *testing.T) {
	for _, a := range elements() {
		if got := field.Pow(a, p); got != a {
			t.Errorf("Pow(%d, p) = %d", a, got)
		}
		if field.Pow(a, 1) != a || field.Pow(a, 2) != field.Mul(a, a) {
			t.Errorf("Pow(%d, 1) or Pow(%d, 2) is wrong", a, a)
		}
		for _, m := range []uint64{0, 1, 2, 1 << 32, p - 1, p, 1 << 63} {
			for _, n := range []uint64{0, 1, 3, 1<<32 - 2, 1<<63 - 1, math.MaxUint64 - p, math.MaxUint64} {
				if m > math.MaxUint64-n {
					continue
				}
				if field.Mul(field.Pow(a, m), field.Pow(a, n)) != field.Pow(a, m+n) {
					t.Errorf("powers %d and %d of %d do not multiply to the power of the sum", m, n, a)
				}
			}
		}
	}
}

// P1.4: the order of Root(k) divides 2^k but not 2^(k-1), and squaring leads from one root to the one before.
func TestRootsOfUnity(t *testing.T) {
	for k := 0; k <= 32; k++ {
		w, _ := field.Root(k)
		if field.Pow(w, 1<<k) != 1 {
			t.Errorf("Root(%d)^(2^%d) is not 1", k, k)
		}
		if k == 0 {
			continue
		}
		if field.Pow(w, 1<<(k-1)) != p-1 {
			t.Errorf("Root(%d)^(2^%d) is not -1", k, k-1)
		}
		if before, _ := field.Root(k - 1); field.Mul(w, w) != before {
			t.Errorf("the square of Root(%d) is not Root(%d)", k, k-1)
		}
	}
}

// P1.5: FromInt respects sums, differences and products that have 64 bits.
func TestIntegersEmbed(t *testing.T) {
	for _, m := range integers() {
		for _, n := range integers() {
			a, b := field.FromInt(m), field.FromInt(n)
			x, y := big.NewInt(m), big.NewInt(n)
			if new(big.Int).Add(x, y).IsInt64() && field.Add(a, b) != field.FromInt(m+n) {
				t.Errorf("FromInt does not respect %d + %d", m, n)
			}
			if new(big.Int).Sub(x, y).IsInt64() && field.Sub(a, b) != field.FromInt(m-n) {
				t.Errorf("FromInt does not respect %d - %d", m, n)
			}
			if new(big.Int).Mul(x, y).IsInt64() && field.Mul(a, b) != field.FromInt(m*n) {
				t.Errorf("FromInt does not respect %d * %d", m, n)
			}
		}
	}
}

// P1: every call returns, also for words that are no field elements, and with an error the other result is 0.
func TestCallsReturn(t *testing.T) {
	for _, a := range words() {
		if r, err := field.Inv(a); err != api.OK && r != 0 {
			t.Errorf("Inv(%d) = %d, %d", a, r, err)
		}
		field.Neg(a)
		for _, b := range words() {
			field.Add(a, b)
			field.Sub(a, b)
			field.Mul(a, b)
			field.Pow(a, b)
		}
	}
	for k := -100; k <= 100; k++ {
		if r, err := field.Root(k); err != api.OK && r != 0 {
			t.Errorf("Root(%d) = %d, %d", k, r, err)
		}
	}
}

// P2: the same arguments give the same results, whatever was called before or is called at the same time.
func TestResultsRepeat(t *testing.T) {
	l, w := elements(), words()
	want := results(l, w)
	back, ahead := slices.Clone(l), slices.Clone(w)
	slices.Reverse(back)
	slices.Reverse(ahead)
	results(back, ahead)
	got := make([][]uint64, 8)
	var group sync.WaitGroup
	for i := range got {
		group.Go(func() { got[i] = results(l, w) })
	}
	group.Wait()
	for _, g := range got {
		if !slices.Equal(g, want) {
			t.Fatal("a repeated call has another result")
		}
	}
}
