package ext_test

import (
	"math"
	"math/bits"
	"slices"
	"sync"
	"testing"

	"attestor/api"
	"attestor/ext"
	"attestor/field"
)

var one = api.Ext{A: 1}

// results calls every function that returns elements, with the elements l, the field elements c and the exponents w,
// and collects everything they return.
func results(l []api.Ext, c []uint64, w []uint64) []api.Ext {
	var out []api.Ext
	for i, a := range l {
		b := l[len(l)-1-i]
		inverse, _ := ext.Inv(a)
		out = append(out, ext.Add(a, b), ext.Sub(a, b), ext.Neg(a), ext.Mul(a, b), ext.Conj(a), inverse)
		out = append(out, ext.MulBase(a, c[i%len(c)]), ext.Pow(a, w[i%len(w)]))
	}
	for _, b := range c {
		out = append(out, ext.FromBase(b))
	}
	for _, n := range integers() {
		out = append(out, ext.FromInt(n))
	}
	return out
}

// P2.1: for valid elements, all integers and all exponents, every result is valid.
func TestResultsAreValid(t *testing.T) {
	for _, r := range results(elements(), components(), exponents()) {
		if r.A >= p || r.B >= p || !ext.Valid(r) {
			t.Fatalf("a result is %v, which is not valid", r)
		}
	}
}

// P2.2: commutative laws, neutral elements and negatives.
func TestFieldAxioms(t *testing.T) {
	l := elements()
	for _, a := range l {
		if ext.Add(a, api.Ext{}) != a || ext.Sub(a, api.Ext{}) != a || ext.Mul(a, one) != a || !ext.IsZero(ext.Mul(a, api.Ext{})) {
			t.Errorf("zero or one is not neutral for %v", a)
		}
		if !ext.IsZero(ext.Add(a, ext.Neg(a))) || ext.Neg(ext.Neg(a)) != a || !ext.IsZero(ext.Sub(a, a)) {
			t.Errorf("Neg(%v) is not the negative", a)
		}
		for _, b := range l {
			if ext.Add(a, b) != ext.Add(b, a) || ext.Mul(a, b) != ext.Mul(b, a) {
				t.Fatalf("%v and %v do not commute", a, b)
			}
			if ext.Sub(a, b) != ext.Add(a, ext.Neg(b)) || ext.Add(ext.Sub(a, b), b) != a {
				t.Fatalf("Sub(%v, %v) is not the difference", a, b)
			}
		}
	}
}

// P2.2: associative laws and the distributive law.
func TestAxiomsOfThree(t *testing.T) {
	l := some()
	for _, a := range l {
		for _, b := range l {
			for _, c := range l {
				if ext.Add(ext.Add(a, b), c) != ext.Add(a, ext.Add(b, c)) {
					t.Fatalf("addition of %v, %v and %v is not associative", a, b, c)
				}
				if ext.Mul(ext.Mul(a, b), c) != ext.Mul(a, ext.Mul(b, c)) {
					t.Fatalf("multiplication of %v, %v and %v is not associative", a, b, c)
				}
				if ext.Mul(a, ext.Add(b, c)) != ext.Add(ext.Mul(a, b), ext.Mul(a, c)) {
					t.Fatalf("multiplication by %v does not distribute over %v + %v", a, b, c)
				}
			}
		}
	}
}

// P2.3: inverses, and no zero divisors.
func TestInverses(t *testing.T) {
	l := elements()
	for _, a := range l {
		inverse, err := ext.Inv(a)
		if ext.IsZero(a) != (err == api.ErrZero) {
			t.Errorf("Inv(%v) has the error %d", a, err)
		}
		if !ext.IsZero(a) {
			back, backErr := ext.Inv(inverse)
			if err != api.OK || ext.Mul(a, inverse) != one || backErr != api.OK || back != a {
				t.Errorf("Inv(%v) = %v is not the inverse", a, inverse)
			}
		}
		for _, b := range l {
			if ext.IsZero(ext.Mul(a, b)) != (ext.IsZero(a) || ext.IsZero(b)) {
				t.Fatalf("%v or %v is a zero divisor", a, b)
			}
		}
	}
}

// P2.4: conjugation respects sums and products, has the order 2, fixes the base field only, and is the power p.
func TestConjugation(t *testing.T) {
	l := elements()
	for _, a := range l {
		c := ext.Conj(a)
		if ext.Conj(c) != a {
			t.Errorf("Conj(Conj(%v)) is another element", a)
		}
		if (c == a) != (a.B == 0) {
			t.Errorf("Conj(%v) = %v", a, c)
		}
		if norm, trace := ext.Mul(a, c), ext.Add(a, c); norm.B != 0 || trace.B != 0 {
			t.Errorf("the norm %v or the trace %v of %v is not in the base field", norm, trace, a)
		}
		if got := ext.Pow(a, p); got != c {
			t.Errorf("Pow(%v, p) = %v, want the conjugate", a, got)
		}
		for _, b := range l {
			if ext.Conj(ext.Add(a, b)) != ext.Add(c, ext.Conj(b)) || ext.Conj(ext.Mul(a, b)) != ext.Mul(c, ext.Conj(b)) {
				t.Fatalf("Conj does not respect the sum or the product of %v and %v", a, b)
			}
		}
	}
	check(t, "Conj(1)", ext.Conj(one), one)
}

// P2.5: exponents add up and multiply as long as the result does not wrap around.
func TestPowers(t *testing.T) {
	for _, a := range some() {
		for _, m := range exponents() {
			for _, n := range exponents() {
				if m <= math.MaxUint64-n && ext.Pow(a, m+n) != ext.Mul(ext.Pow(a, m), ext.Pow(a, n)) {
					t.Errorf("powers %d and %d of %v do not multiply to the power of the sum", m, n, a)
				}
				if high, low := bits.Mul64(m, n); high == 0 && ext.Pow(a, low) != ext.Pow(ext.Pow(a, m), n) {
					t.Errorf("the power %d of the power %d of %v is not the power of the product", n, m, a)
				}
			}
		}
	}
}

// P2.5: the power p^2 - 1 of every element but zero is one; it is the power p + 1 of the power p - 1.
func TestOrder(t *testing.T) {
	for _, a := range elements() {
		want := one
		if ext.IsZero(a) {
			want = api.Ext{}
		}
		if got := ext.Pow(ext.Pow(a, p-1), p+1); got != want {
			t.Errorf("the power p^2 - 1 of %v is %v", a, got)
		}
	}
}

// P2.6: FromBase respects sums, products and inverses, and MulBase multiplies by an embedded element.
func TestBaseField(t *testing.T) {
	for _, a := range components() {
		inverse, err := field.Inv(a)
		got, gotErr := ext.Inv(ext.FromBase(a))
		if got != ext.FromBase(inverse) || gotErr != err {
			t.Errorf("FromBase does not respect the inverse of %d", a)
		}
		for _, b := range components() {
			x, y := ext.FromBase(a), ext.FromBase(b)
			if ext.Add(x, y) != ext.FromBase(field.Add(a, b)) || ext.Sub(x, y) != ext.FromBase(field.Sub(a, b)) {
				t.Errorf("FromBase does not respect the sum or the difference of %d and %d", a, b)
			}
			if ext.Mul(x, y) != ext.FromBase(field.Mul(a, b)) {
				t.Errorf("FromBase does not respect the product of %d and %d", a, b)
			}
			if (a == b) != (x == y) {
				t.Errorf("FromBase does not tell %d and %d apart", a, b)
			}
		}
		for _, x := range elements() {
			if ext.MulBase(x, a) != ext.Mul(x, ext.FromBase(a)) {
				t.Errorf("MulBase(%v, %d) is not the product", x, a)
			}
		}
	}
}

// P1: every call returns, also for elements that are not valid, and with an error the other result is zero.
func TestCallsReturn(t *testing.T) {
	words := []uint64{0, 1, p - 1, p, p + 1, 1<<64 - 2, 1<<64 - 1}
	for _, x := range words {
		for _, y := range words {
			a := api.Ext{A: x, B: y}
			if r, err := ext.Inv(a); err != api.OK && r != (api.Ext{}) {
				t.Errorf("Inv(%v) = %v, %d", a, r, err)
			}
			ext.IsZero(a)
			ext.Neg(a)
			ext.Conj(a)
			ext.FromBase(x)
			for _, z := range words {
				b := api.Ext{A: y, B: z}
				ext.Add(a, b)
				ext.Sub(a, b)
				ext.Mul(a, b)
				ext.MulBase(a, z)
				ext.Pow(a, z)
			}
		}
	}
}

// P2: the same arguments give the same results, whatever was called before or is called at the same time, and the
// arguments stay as they are.
func TestResultsRepeat(t *testing.T) {
	l, c, w := elements(), components(), exponents()
	want := results(l, c, w)
	back := slices.Clone(l)
	slices.Reverse(back)
	results(back, c, w)
	got := make([][]api.Ext, 8)
	var group sync.WaitGroup
	for i := range got {
		group.Go(func() { got[i] = results(l, c, w) })
	}
	group.Wait()
	for _, g := range got {
		if !slices.Equal(g, want) {
			t.Fatal("a repeated call has another result")
		}
	}
	if !slices.Equal(l, elements()) || !slices.Equal(c, components()) || !slices.Equal(w, exponents()) {
		t.Fatal("an argument was modified")
	}
}
