package poly_test

import (
	"slices"
	"sync"
	"testing"

	"attestor/api"
	"attestor/ext"
	"attestor/poly"
)

// some returns a few of the polynomials, for tests of triples.
func some() [][]api.Ext {
	l := append(short()[8:17], nil, power(one, 50), padded(random(33, 24), 30))
	return append(l, random(5, 21), random(26, 22), random(64, 23))
}

// different returns n different elements, in the base field and outside.
func different(n int) []api.Ext {
	var l []api.Ext
	for i := range n {
		l = append(l, api.Ext{A: uint64(i/2) * 1234567, B: uint64(i % 2)})
	}
	return l
}

// withRoots returns the product of X - x for all elements x of the list.
func withRoots(l []api.Ext) []api.Ext {
	product := ints(1)
	for _, x := range l {
		product = slowMul(product, []api.Ext{ext.Neg(x), one})
	}
	return product
}

// newPolynomials calls every function that returns a polynomial, with pairs of polynomials and with elements.
func newPolynomials(polynomials [][]api.Ext, elements []api.Ext) [][]api.Ext {
	var out [][]api.Ext
	for i, l := range polynomials {
		m, x := polynomials[len(polynomials)-1-i], elements[i%len(elements)]
		quotient, _ := poly.DivRoot(l, x)
		out = append(out, poly.Trim(l), poly.Add(l, m), poly.Sub(l, m), poly.Sub(l, l), poly.Mul(l, m))
		out = append(out, poly.Scale(l, x), poly.Interpolate(l), quotient)
	}
	return out
}

// newElements calls all other functions, and returns indices and degrees as elements of integers.
func newElements(polynomials [][]api.Ext, elements []api.Ext) []api.Ext {
	var out []api.Ext
	for i, l := range polynomials {
		x := elements[i%len(elements)]
		_, rest := poly.DivRoot(l, x)
		out = append(out, poly.Eval(l, x), poly.At(l, x), rest, ext.FromInt(int64(poly.Degree(l))))
		for _, r := range poly.Roots(l, elements) {
			out = append(out, ext.FromInt(int64(r)))
		}
	}
	return out
}

// P3.1: the polynomials that are returned are trimmed, and all elements that are returned are valid.
func TestResultsAreTrimmedAndValid(t *testing.T) {
	for _, l := range newPolynomials(polynomials(), elements()) {
		if n := len(l); n > 0 && l[n-1] == zero {
			t.Fatalf("the result %v is not trimmed", l)
		}
		for _, c := range l {
			if !ext.Valid(c) {
				t.Fatalf("the result %v has a coefficient that is not valid", l)
			}
		}
	}
	for _, x := range newElements(polynomials(), elements()) {
		if !ext.Valid(x) {
			t.Fatalf("the result %v is not valid", x)
		}
	}
}

// P3.2: evaluation respects sums, differences, products and multiples, and the constants zero and one.
func TestEvaluationIsHomomorphism(t *testing.T) {
	for _, x := range elements() {
		checkElement(t, "the value of zero", poly.Eval(nil, x), zero)
		checkElement(t, "the value of one", poly.Eval(ints(1), x), one)
		checkElement(t, "the value of X", poly.Eval(ints(0, 1), x), x)
		for _, l := range polynomials() {
			a := poly.Eval(l, x)
			checkElement(t, "the value of Trim", poly.Eval(poly.Trim(l), x), a)
			checkElement(t, "the value of a multiple", poly.Eval(poly.Scale(l, x), x), ext.Mul(a, x))
			for _, m := range some() {
				b := poly.Eval(m, x)
				checkElement(t, "the value of a sum", poly.Eval(poly.Add(l, m), x), ext.Add(a, b))
				checkElement(t, "the value of a difference", poly.Eval(poly.Sub(l, m), x), ext.Sub(a, b))
				checkElement(t, "the value of a product", poly.Eval(poly.Mul(l, m), x), ext.Mul(a, b))
			}
		}
	}
}

// P3.3: the values at as many nodes as there are coefficients, or more, lead back to the polynomial.
func TestInterpolationInvertsEvaluation(t *testing.T) {
	for _, l := range polynomials() {
		for _, more := range []int{0, 1, 7} {
			v := make([]api.Ext, len(l)+more)
			for i := range v {
				v[i] = poly.Eval(l, ext.FromInt(int64(i)))
			}
			check(t, "Interpolate", poly.Interpolate(v), trimmed(l))
			for _, x := range elements() {
				checkElement(t, "At", poly.At(v, x), poly.Eval(l, x))
			}
		}
	}
}

// P3.3: interpolation and At are linear in the values.
func TestInterpolationIsLinear(t *testing.T) {
	v, w, c := random(40, 31), random(40, 32), api.Ext{A: 3, B: p - 2}
	sum, multiple := make([]api.Ext, len(v)), make([]api.Ext, len(v))
	for i := range v {
		sum[i], multiple[i] = ext.Add(v[i], w[i]), ext.Mul(v[i], c)
	}
	check(t, "Interpolate", poly.Interpolate(sum), poly.Add(poly.Interpolate(v), poly.Interpolate(w)))
	check(t, "Interpolate", poly.Interpolate(multiple), poly.Scale(poly.Interpolate(v), c))
	for _, x := range elements() {
		checkElement(t, "At", poly.At(sum, x), ext.Add(poly.At(v, x), poly.At(w, x)))
		checkElement(t, "At", poly.At(multiple, x), ext.Mul(poly.At(v, x), c))
	}
}

// P3.4: p = q * (X - x) + r with the functions of the package, where r is the value at x; a root leaves nothing.
func TestDivision(t *testing.T) {
	for _, l := range polynomials() {
		for _, x := range elements() {
			factor := []api.Ext{ext.Neg(x), one}
			quotient, rest := poly.DivRoot(l, x)
			check(t, "q * (X - x) + r", poly.Add(poly.Mul(quotient, factor), []api.Ext{rest}), poly.Trim(l))
			checkElement(t, "the remainder", rest, poly.Eval(l, x))
			back, none := poly.DivRoot(poly.Mul(l, factor), x)
			check(t, "the quotient of a multiple of X - x", back, poly.Trim(l))
			checkElement(t, "the remainder of a multiple of X - x", none, zero)
		}
	}
}

// P3.5: a polynomial vanishes at its roots only, also if they are multiple roots, and these are at most as many as its
// degree.
func TestNumberOfRoots(t *testing.T) {
	list := different(60)
	for n := range 40 {
		want := make([]int, n)
		for i := range want {
			want[i] = i
		}
		for _, l := range [][]api.Ext{withRoots(list[:n]), poly.Scale(withRoots(slices.Concat(list[:n], list[:n/2])), api.Ext{B: 9})} {
			if got := poly.Roots(l, list); !slices.Equal(got, want) || len(got) > poly.Degree(l) {
				t.Fatalf("the roots of the product of %d factors have the indices %v", n, got)
			}
		}
	}
	for _, l := range polynomials() {
		if n := len(poly.Roots(l, list)); poly.Degree(l) >= 0 && n > poly.Degree(l) {
			t.Fatalf("%v has %d roots", l, n)
		}
	}
}

// P3.5: two different polynomials agree at the roots of their difference only.
func TestAgreement(t *testing.T) {
	list := different(50)
	for _, l := range polynomials() {
		for _, n := range []int{0, 1, 2, 30} {
			m := poly.Add(l, withRoots(list[:n]))
			agree := 0
			for _, x := range list {
				if poly.Eval(l, x) == poly.Eval(m, x) {
					agree++
				}
			}
			if agree != n || len(poly.Roots(poly.Sub(l, m), list)) != n {
				t.Fatalf("%v and %v agree at %d elements, want %d", l, m, agree, n)
			}
		}
	}
}

// P3.6: commutative laws, neutral elements and negatives, no zero divisors, and degrees add up.
func TestRingAxioms(t *testing.T) {
	for _, l := range polynomials() {
		same := poly.Trim(l)
		check(t, "l + 0", poly.Add(l, nil), same)
		check(t, "l - 0", poly.Sub(l, nil), same)
		check(t, "l * 1", poly.Mul(l, ints(1)), same)
		check(t, "l * 0", poly.Mul(l, make([]api.Ext, 3)), nil)
		check(t, "l + (0 - l)", poly.Add(l, poly.Sub(nil, l)), nil)
		for _, m := range polynomials() {
			product := poly.Mul(l, m)
			check(t, "l + m", poly.Add(l, m), poly.Add(m, l))
			check(t, "l * m", product, poly.Mul(m, l))
			check(t, "(l - m) + m", poly.Add(poly.Sub(l, m), m), same)
			want := poly.Degree(l) + poly.Degree(m)
			if poly.Degree(l) < 0 || poly.Degree(m) < 0 {
				want = -1
			}
			if got := poly.Degree(product); got != want {
				t.Fatalf("the product of %v and %v has the degree %d, want %d", l, m, got, want)
			}
		}
	}
}

// P3.6: associative laws and the distributive law; Scale is multiplication by a constant.
func TestAxiomsOfThree(t *testing.T) {
	l := some()
	for _, a := range l {
		for _, c := range elements() {
			check(t, "Scale", poly.Scale(a, c), poly.Mul(a, []api.Ext{c}))
		}
		for _, b := range l {
			for _, c := range l {
				check(t, "(a + b) + c", poly.Add(poly.Add(a, b), c), poly.Add(a, poly.Add(b, c)))
				check(t, "(a * b) * c", poly.Mul(poly.Mul(a, b), c), poly.Mul(a, poly.Mul(b, c)))
				check(t, "a * (b + c)", poly.Mul(a, poly.Add(b, c)), poly.Add(poly.Mul(a, b), poly.Mul(a, c)))
			}
		}
	}
}

// P1: the functions return for slices of the largest length.
func TestLongestSlices(t *testing.T) {
	const n = 65536
	l, x := random(n, 41), api.Ext{A: 12345, B: 67890}
	check(t, "Sub", poly.Sub(poly.Add(l, l), poly.Scale(l, ints(2)[0])), nil)
	check(t, "Trim", poly.Trim(padded(l[:3], n-3)), l[:3])
	if got := poly.Degree(l); got != n-1 {
		t.Errorf("Degree = %d, want %d", got, n-1)
	}
	quotient, rest := poly.DivRoot(l, x)
	checkElement(t, "the remainder", rest, poly.Eval(l, x))
	check(t, "q * (X - x) + r", poly.Add(poly.Mul(quotient, []api.Ext{ext.Neg(x), one}), []api.Ext{rest}), l)
	if got := poly.Roots(ints(-3, 1), slices.Concat(l[:n-1], ints(3))); !slices.Equal(got, []int{n - 1}) {
		t.Errorf("Roots = %v, want the last index", got)
	}
	check(t, "the square of X^65535", poly.Mul(power(one, n-1), power(one, n-1)), power(one, 2*n-2))
	cubes := make([]api.Ext, n)
	for i := range cubes {
		cubes[i] = ext.Pow(ext.FromInt(int64(i)), 3)
	}
	checkElement(t, "At", poly.At(cubes, x), ext.Pow(x, 3))
	checkElement(t, "At a node", poly.At(l, ext.FromInt(n-1)), l[n-1])
}

// P1: products and interpolations with thousands of elements return, with the right values.
func TestLongProductsAndInterpolation(t *testing.T) {
	l, m, x := random(8000, 42), random(9000, 43), api.Ext{A: 12345, B: 67890}
	checkElement(t, "the value of a product", poly.Eval(poly.Mul(l, m), x), ext.Mul(poly.Eval(l, x), poly.Eval(m, x)))
	v := random(4000, 44)
	got := poly.Interpolate(v)
	checkElement(t, "the value of Interpolate", poly.Eval(got, x), poly.At(v, x))
	for i := 0; i < len(v); i += 97 {
		checkElement(t, "the value at a node", poly.Eval(got, ext.FromInt(int64(i))), v[i])
	}
}

// P1: every call returns, also for elements that are not valid.
func TestCallsReturn(t *testing.T) {
	var bad []api.Ext
	for _, a := range []uint64{0, 1, p - 1, p, p + 1, 1<<64 - 1} {
		for _, b := range []uint64{0, p, p + 1, 1<<64 - 1} {
			bad = append(bad, api.Ext{A: a, B: b})
		}
	}
	lists := [][]api.Ext{bad, slices.Concat(bad, bad, bad), slices.Repeat([]api.Ext{{A: p}}, 70), append(random(60, 51), bad...)}
	for _, l := range lists {
		for _, m := range append(lists, short()...) {
			newPolynomials([][]api.Ext{l, m}, bad)
			newElements([][]api.Ext{l, m}, bad)
		}
	}
}

// P2: the same arguments give the same results, whatever was called before or is called at the same time.
func TestResultsRepeat(t *testing.T) {
	l, e := polynomials(), elements()
	wantPolynomials, wantElements := newPolynomials(l, e), newElements(l, e)
	back := slices.Clone(l)
	slices.Reverse(back)
	newPolynomials(back, e)
	newElements(back, e)
	repeated := make([]bool, 8)
	var group sync.WaitGroup
	for i := range repeated {
		group.Go(func() {
			repeated[i] = slices.EqualFunc(newPolynomials(l, e), wantPolynomials, slices.Equal[[]api.Ext]) &&
				slices.Equal(newElements(l, e), wantElements)
		})
	}
	group.Wait()
	if slices.Contains(repeated, false) {
		t.Fatal("a repeated call has another result")
	}
}

// P2: arguments and the memory behind them stay as they are, and a change of a result changes no argument.
func TestArgumentsStay(t *testing.T) {
	var arguments, copies [][]api.Ext
	for _, l := range polynomials() {
		behind := append(slices.Clone(l), random(3, 61)...)
		arguments, copies = append(arguments, behind[:len(l)]), append(copies, slices.Clone(behind))
	}
	e := elements()
	out := newPolynomials(arguments, e)
	newElements(arguments, e)
	for _, l := range out {
		l = l[:cap(l)]
		for i := range l {
			l[i] = api.Ext{A: 77, B: 77}
		}
	}
	for i, l := range arguments {
		if !slices.Equal(l[:len(l)+3], copies[i]) {
			t.Fatalf("the argument %v has become %v", copies[i], l)
		}
	}
	if !slices.Equal(e, elements()) {
		t.Fatal("an argument was modified")
	}
}
