package poly_test

import (
	"slices"
	"testing"

	"attestor/api"
	"attestor/ext"
	"attestor/poly"
)

const p = uint64(api.Prime)

var (
	zero = api.Ext{}
	one  = api.Ext{A: 1}
)

// ints returns the polynomial, or the list, of elements of integers.
func ints(l ...int64) []api.Ext {
	var out []api.Ext
	for _, n := range l {
		out = append(out, ext.FromInt(n))
	}
	return out
}

// random returns n elements without a pattern, always the same for the same seed.
func random(n int, seed uint64) []api.Ext {
	x := seed
	next := func() uint64 {
		x = x*6364136223846793005 + 1442695040888963407
		return (x ^ x>>29) % p
	}
	l := make([]api.Ext, n)
	for i := range l {
		l[i] = api.Ext{A: next(), B: next()}
	}
	return l
}

// power returns c X^n.
func power(c api.Ext, n int) []api.Ext { return append(make([]api.Ext, n), c) }

// padded returns l with n zero leading coefficients.
func padded(l []api.Ext, n int) []api.Ext { return append(slices.Clone(l), make([]api.Ext, n)...) }

// elements returns elements of the base field, multiples of X and elements without a pattern.
func elements() []api.Ext {
	l := []api.Ext{zero, one, {A: 2}, {A: p - 1}, {A: 1 << 32}, {B: 1}, {B: p - 1}, {A: p - 1, B: p - 1}, {A: 59, B: 10}}
	return append(l, random(4, 7)...)
}

// short returns polynomials with few coefficients: zero, constants, with and without zero leading coefficients.
func short() [][]api.Ext {
	l := [][]api.Ext{
		nil, {}, {zero}, {zero, zero, zero}, {one}, {{A: p - 1}}, {{B: 1}}, {{A: 59, B: 10}, zero},
		ints(0, 1), ints(1, 1), ints(1, -1), ints(-1, 0, 1), ints(1, 0, 1), ints(5, 0, 0), ints(1, 2, 3, 0, 0, 0, 0),
		{zero, {B: 1}}, {{A: 7}, zero, {A: p - 1}}, {{B: p - 1}, {A: p - 1, B: 1}, zero, {B: 3}},
	}
	for n := range 6 {
		l = append(l, random(n, uint64(n)))
	}
	return l
}

// long returns polynomials with many coefficients, among them such as vanish in one half or whose halves cancel out.
func long() [][]api.Ext {
	half := random(20, 1)
	l := [][]api.Ext{
		power(one, 50), padded(power(api.Ext{B: 2}, 24), 24), slices.Concat(half, make([]api.Ext, 20), half),
		slices.Concat(half, poly.Scale(half, ints(-1)[0])), padded(half, 44), append(padded(ints(1), 62), one),
		make([]api.Ext, 40), slices.Concat(make([]api.Ext, 30), half, half),
	}
	for _, n := range []int{15, 16, 17, 23, 24, 25, 26, 31, 32, 33, 47, 48, 49, 50, 51, 63, 64, 65, 96, 97, 130} {
		l = append(l, random(n, uint64(n)))
	}
	return l
}

// polynomials returns all of them.
func polynomials() [][]api.Ext { return append(short(), long()...) }

// trimmed is what Trim returns, in the memory of l.
func trimmed(l []api.Ext) []api.Ext {
	for len(l) > 0 && l[len(l)-1] == zero {
		l = l[:len(l)-1]
	}
	return l
}

// at returns coefficient i of l, which is zero beyond the end.
func at(l []api.Ext, i int) api.Ext {
	if i < len(l) {
		return l[i]
	}
	return zero
}

// slowMul is the product by its definition: coefficient k is the sum of all l[i] m[k-i].
func slowMul(l []api.Ext, m []api.Ext) []api.Ext {
	out := make([]api.Ext, len(l)+len(m))
	for k := range out {
		for i := range min(k+1, len(l)) {
			if k-i < len(m) {
				out[k] = ext.Add(out[k], ext.Mul(l[i], m[k-i]))
			}
		}
	}
	return trimmed(out)
}

// slowEval is the value by its definition: the sum of all l[i] x^i.
func slowEval(l []api.Ext, x api.Ext) api.Ext {
	sum := zero
	for i, c := range l {
		sum = ext.Add(sum, ext.Mul(c, ext.Pow(x, uint64(i))))
	}
	return sum
}

// slowAt is the value at x of the polynomial with the values v at the nodes, by Lagrange's formula.
func slowAt(v []api.Ext, x api.Ext) api.Ext {
	sum := zero
	for i, c := range v {
		for j := range v {
			if j != i {
				inverse, _ := ext.Inv(ext.FromInt(int64(i - j)))
				c = ext.Mul(c, ext.Mul(inverse, ext.Sub(x, ext.FromInt(int64(j)))))
			}
		}
		sum = ext.Add(sum, c)
	}
	return sum
}

func check(t *testing.T, call string, got []api.Ext, want []api.Ext) {
	t.Helper()
	if !slices.Equal(got, want) {
		t.Fatalf("%s = %v, want %v", call, got, want)
	}
}

func checkElement(t *testing.T, call string, got api.Ext, want api.Ext) {
	t.Helper()
	if got != want {
		t.Fatalf("%s = %v, want %v", call, got, want)
	}
}

// C1: zero leading coefficients count for nothing, all others do, also those with one component zero.
func TestTrimAndDegree(t *testing.T) {
	for _, l := range polynomials() {
		for _, n := range []int{0, 1, 5} {
			got, want := padded(l, n), trimmed(l)
			check(t, "Trim", poly.Trim(got), want)
			if d := poly.Degree(got); d != len(want)-1 {
				t.Fatalf("Degree(%v) = %d, want %d", got, d, len(want)-1)
			}
		}
	}
	check(t, "Trim", poly.Trim([]api.Ext{zero, {B: 1}, zero}), []api.Ext{zero, {B: 1}})
	for _, l := range [][]api.Ext{nil, {}, {zero}, make([]api.Ext, 65536)} {
		if d := poly.Degree(l); d != -1 {
			t.Errorf("the zero polynomial with %d coefficients has the degree %d", len(l), d)
		}
	}
}

// C2: sums and differences are those of the coefficients, for all pairs of lengths, and trimmed.
func TestAddAndSub(t *testing.T) {
	for _, l := range polynomials() {
		for _, m := range polynomials() {
			sum, difference := make([]api.Ext, max(len(l), len(m))), make([]api.Ext, max(len(l), len(m)))
			for i := range sum {
				sum[i], difference[i] = ext.Add(at(l, i), at(m, i)), ext.Sub(at(l, i), at(m, i))
			}
			check(t, "Add", poly.Add(l, m), trimmed(sum))
			check(t, "Sub", poly.Sub(l, m), trimmed(difference))
		}
	}
}

// C2: leading coefficients that cancel out are removed.
func TestCancellation(t *testing.T) {
	l, m := ints(1, 2, 3), ints(4, -2, -3)
	check(t, "Add", poly.Add(l, m), ints(5))
	check(t, "Sub", poly.Sub(l, ints(0, 2, 3)), ints(1))
	check(t, "Add", poly.Add(l, ints(-1, -2, -3)), nil)
	check(t, "Sub", poly.Sub(l, l), nil)
	check(t, "Sub", poly.Sub(nil, l), ints(-1, -2, -3))
}

// C2: products with the lengths around which the method changes, with halves that vanish, and of very different lengths.
func TestMul(t *testing.T) {
	for _, l := range polynomials() {
		for _, m := range polynomials() {
			check(t, "Mul", poly.Mul(l, m), slowMul(l, m))
		}
	}
	for _, n := range [][2]int{{1, 1000}, {24, 700}, {25, 700}, {26, 511}, {300, 301}, {256, 512}} {
		l, m := random(n[0], 11), random(n[1], 12)
		want := slowMul(l, m)
		check(t, "Mul", poly.Mul(l, m), want)
		check(t, "Mul", poly.Mul(padded(m, 9), padded(l, 400)), want)
	}
}

// C2: all coefficients are multiplied, and nothing remains of a multiple of zero.
func TestScale(t *testing.T) {
	for _, l := range polynomials() {
		for _, c := range elements() {
			want := make([]api.Ext, len(l))
			for i := range l {
				want[i] = ext.Mul(l[i], c)
			}
			check(t, "Scale", poly.Scale(l, c), trimmed(want))
		}
	}
	check(t, "Scale", poly.Scale(ints(1, 2), zero), nil)
}

// C3: the value is the sum of the terms; that of the zero polynomial is zero.
func TestEval(t *testing.T) {
	for _, l := range polynomials() {
		for _, x := range elements() {
			checkElement(t, "Eval", poly.Eval(l, x), slowEval(l, x))
		}
		checkElement(t, "Eval at 0", poly.Eval(l, zero), at(l, 0))
	}
	checkElement(t, "Eval", poly.Eval(nil, api.Ext{A: 5, B: 6}), zero)
	checkElement(t, "Eval", poly.Eval(make([]api.Ext, 3), api.Ext{A: 5, B: 6}), zero)
}

// C4: the interpolating polynomial has the given values, its degree is less than their number, and it is trimmed.
func TestInterpolate(t *testing.T) {
	for _, v := range polynomials() {
		got := poly.Interpolate(v)
		if len(got) > len(v) || !slices.Equal(got, trimmed(got)) {
			t.Fatalf("Interpolate(%v) = %v", v, got)
		}
		for i := range v {
			checkElement(t, "the value at a node", poly.Eval(got, ext.FromInt(int64(i))), v[i])
		}
	}
	check(t, "Interpolate", poly.Interpolate(nil), nil)
	check(t, "Interpolate", poly.Interpolate(ints(0, 0, 0)), nil)
	check(t, "Interpolate", poly.Interpolate([]api.Ext{{A: 3, B: 4}}), []api.Ext{{A: 3, B: 4}})
	check(t, "Interpolate", poly.Interpolate(ints(9, 9, 9, 9)), ints(9))
	check(t, "Interpolate", poly.Interpolate(ints(0, 1, 8, 27, 64)), ints(0, 0, 0, 1))
}

// C4: At is the value of the interpolating polynomial, at nodes, behind the nodes and at elements that are no nodes.
func TestAt(t *testing.T) {
	for _, v := range polynomials() {
		for _, x := range append(elements(), ints(int64(len(v)), -2)...) {
			want := slowAt(v, x)
			checkElement(t, "At", poly.At(v, x), want)
			checkElement(t, "the value of Interpolate", slowEval(poly.Interpolate(v), x), want)
		}
		for i := range v {
			checkElement(t, "At a node", poly.At(v, ext.FromInt(int64(i))), v[i])
		}
	}
	checkElement(t, "At", poly.At(nil, one), zero)
	checkElement(t, "At", poly.At([]api.Ext{{A: 3, B: 4}}, api.Ext{A: 5, B: 6}), api.Ext{A: 3, B: 4})
	checkElement(t, "At", poly.At(ints(10, 20, 34), ints(5)[0]), ints(100)[0])
}

// C5: the quotient is trimmed, and that of a constant is zero.
func TestDivRoot(t *testing.T) {
	for _, l := range polynomials() {
		for _, x := range elements() {
			quotient, rest := poly.DivRoot(l, x)
			if len(quotient) != max(0, len(trimmed(l))-1) || !slices.Equal(quotient, trimmed(quotient)) {
				t.Fatalf("the quotient of %v has the coefficients %v", l, quotient)
			}
			checkElement(t, "the remainder of DivRoot", rest, slowEval(l, x))
			product := slowMul(quotient, []api.Ext{ext.Neg(x), one})
			check(t, "quotient and remainder", poly.Add(product, []api.Ext{rest}), trimmed(l))
		}
	}
	for _, l := range [][]api.Ext{nil, {zero}, {zero, zero}} {
		quotient, rest := poly.DivRoot(l, api.Ext{A: 5, B: 6})
		check(t, "the quotient of zero", quotient, nil)
		checkElement(t, "the remainder of zero", rest, zero)
	}
	quotient, rest := poly.DivRoot(ints(9, 0, 0), api.Ext{A: 5, B: 6})
	check(t, "the quotient of a constant", quotient, nil)
	checkElement(t, "the remainder of a constant", rest, ints(9)[0])
}

// C5: the indices of all roots, in increasing order, each time that a root occurs in the list.
func TestRoots(t *testing.T) {
	cubic := poly.Mul(ints(-2, 1), poly.Mul(ints(-2, 1), []api.Ext{{B: p - 3}, one})) // (X - 2)^2 (X - 3 X')
	list := append(ints(0, 2, 5, 2), api.Ext{B: 3}, api.Ext{A: 3}, ext.FromInt(2))
	for i, c := range []struct {
		p    []api.Ext
		l    []api.Ext
		want []int
	}{
		{cubic, list, []int{1, 3, 4, 6}},
		{padded(cubic, 3), list, []int{1, 3, 4, 6}},
		{nil, list, []int{0, 1, 2, 3, 4, 5, 6}},
		{make([]api.Ext, 4), list, []int{0, 1, 2, 3, 4, 5, 6}},
		{ints(4), list, nil},
		{ints(0, 1), list, []int{0}},
		{cubic, nil, nil},
		{nil, nil, nil},
		{[]api.Ext{{A: p - 7}, zero, one}, []api.Ext{{A: 7}, {B: 1}, {A: 1}, {B: p - 1}}, []int{1, 3}}, // X^2 - 7
	} {
		if got := poly.Roots(c.p, c.l); !slices.Equal(got, c.want) {
			t.Errorf("case %d: Roots = %v, want %v", i, got, c.want)
		}
	}
	for _, l := range polynomials() {
		var want []int
		for i, x := range elements() {
			if slowEval(l, x) == zero {
				want = append(want, i)
			}
		}
		if got := poly.Roots(l, elements()); !slices.Equal(got, want) {
			t.Errorf("Roots(%v) = %v, want %v", l, got, want)
		}
	}
}

// The examples of the chapter.
func TestExamples(t *testing.T) {
	check(t, "Mul", poly.Mul(ints(1, 1), ints(1, -1)), ints(1, 0, -1))
	check(t, "Interpolate", poly.Interpolate(ints(1, 2, 5)), ints(1, 0, 1))
	quotient, rest := poly.DivRoot(ints(-1, 0, 1), ints(2)[0])
	check(t, "the quotient", quotient, ints(2, 1))
	checkElement(t, "the remainder", rest, ints(3)[0])
}
