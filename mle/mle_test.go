package mle_test

import (
	"math"
	"slices"
	"testing"

	"attestor/api"
	"attestor/ext"
	"attestor/mle"
)

const (
	p       = uint64(api.Prime)
	most    = 16 // variables
	longest = 65536
)

var (
	zero = api.Ext{}
	one  = api.Ext{A: 1}
)

// ints returns the table, or the point, of elements of integers.
func ints(l ...int64) []api.Ext {
	var out []api.Ext
	for _, n := range l {
		out = append(out, ext.FromInt(n))
	}
	return out
}

// random returns n elements without a pattern, always the same for the same seed.
func random(n int, seed uint64) []api.Ext {
	x := seed
	next := func() uint64 {
		x = x*6364136223846793005 + 1442695040888963407
		return (x ^ x>>29) % p
	}
	l := make([]api.Ext, n)
	for i := range l {
		l[i] = api.Ext{A: next(), B: next()}
	}
	return l
}

// bit returns bit k of i.
func bit(i int, k int) int { return i >> k & 1 }

// vertex returns the vertex of i with n coordinates.
func vertex(i int, n int) []api.Ext {
	var out []api.Ext
	for k := range n {
		out = append(out, ext.FromInt(int64(bit(i, k))))
	}
	return out
}

// counting returns the table with n variables whose element i is i.
func counting(n int) []api.Ext {
	t := make([]api.Ext, 1<<n)
	for i := range t {
		t[i] = ext.FromInt(int64(i))
	}
	return t
}

// single returns the table with n variables whose element i is c, and all others are zero.
func single(c api.Ext, i int, n int) []api.Ext {
	t := make([]api.Ext, 1<<n)
	t[i] = c
	return t
}

// halves returns the point with n coordinates 1/2.
func halves(n int) []api.Ext {
	half, _ := ext.Inv(ext.FromInt(2))
	return slices.Repeat([]api.Ext{half}, n)
}

// elements returns elements of the base field, multiples of X and elements without a pattern.
func elements() []api.Ext {
	l := []api.Ext{zero, one, {A: 2}, {A: p - 1}, {A: 1 << 32}, {B: 1}, {B: p - 1}, {A: p - 1, B: p - 1}, {A: 59, B: 10}}
	return append(l, random(3, 7)...)
}

// tables returns tables with n variables: constants, single elements, and such without a pattern.
func tables(n int) [][]api.Ext {
	return [][]api.Ext{
		make([]api.Ext, 1<<n), slices.Repeat([]api.Ext{{A: p - 1, B: 3}}, 1<<n), counting(n), single(one, 0, n),
		single(api.Ext{B: p - 1}, 1<<n-1, n), single(api.Ext{A: 1 << 40}, 1<<n/3, n), random(1<<n, uint64(n)),
		random(1<<n, uint64(n)+100),
	}
}

// points returns points with n coordinates: vertices, such with equal coordinates, and such without a pattern.
func points(n int) [][]api.Ext {
	l := [][]api.Ext{vertex(0, n), vertex(1<<n-1, n), vertex(1<<n/3, n), vertex(1<<n/2, n), halves(n)}
	for i, x := range elements() {
		l = append(l, slices.Repeat([]api.Ext{x}, n), random(n, uint64(n+i)))
	}
	return l
}

// monomials returns the coefficients of the multilinear extension of t: that of index i belongs to the product of the
// variables whose bits are set in i.
func monomials(t []api.Ext) []api.Ext {
	c := slices.Clone(t)
	for step := 1; step < len(c); step *= 2 {
		for i := range c {
			if i&step != 0 {
				c[i] = ext.Sub(c[i], c[i-step])
			}
		}
	}
	return c
}

// slowEval is the value of the multilinear extension of t as a sum of monomials.
func slowEval(t []api.Ext, point []api.Ext) api.Ext {
	sum := zero
	for i, c := range monomials(t) {
		for k, x := range point {
			if bit(i, k) == 1 {
				c = ext.Mul(c, x)
			}
		}
		sum = ext.Add(sum, c)
	}
	return sum
}

// weight is EqIndex by its definition for a vertex: the product of the coordinates, or of what they lack to 1.
func weight(i int, point []api.Ext) api.Ext {
	product := one
	for k, x := range point {
		if bit(i, k) == 0 {
			x = ext.Sub(one, x)
		}
		product = ext.Mul(product, x)
	}
	return product
}

func check(t *testing.T, call string, got []api.Ext, want []api.Ext) {
	t.Helper()
	if !slices.Equal(got, want) {
		t.Fatalf("%s = %v, want %v", call, got, want)
	}
}

func checkElement(t *testing.T, call string, got api.Ext, want api.Ext) {
	t.Helper()
	if got != want {
		t.Fatalf("%s = %v, want %v", call, got, want)
	}
}

func checkValid(t *testing.T, table []api.Ext, want int, wantOk bool) {
	t.Helper()
	if n, ok := mle.Valid(table); n != want || ok != wantOk {
		t.Fatalf("Valid of %d elements = %d, %v, want %d, %v", len(table), n, ok, want, wantOk)
	}
}

// E1: the lengths of tables are the powers of two from 1 to 65536.
func TestLengthsOfTables(t *testing.T) {
	checkValid(t, nil, 0, false)
	logarithms := map[int]int{}
	for n := range most + 1 {
		logarithms[1<<n] = n
	}
	for _, n := range append(lengths(), 131071, 131072, 262144, 1<<20) {
		logarithm, ok := logarithms[n]
		checkValid(t, make([]api.Ext, n), logarithm, ok)
		checkValid(t, random(n, 3), logarithm, ok)
	}
}

// lengths returns the lengths up to 70, and those around the longer tables.
func lengths() []int {
	var l []int
	for n := range 71 {
		l = append(l, n)
	}
	for n := 128; n <= longest; n *= 2 {
		l = append(l, n-1, n, n+1, n+n/2)
	}
	return l
}

// E1: one component of one element is enough to make a table invalid, and there is no number of variables then.
func TestInvalidElements(t *testing.T) {
	for _, n := range []int{0, 1, 2, 5, most} {
		for _, i := range []int{0, 1<<n - 1, 1 << n / 3, 1 << n / 2} {
			for _, word := range []uint64{p, p + 1, 1<<64 - 1} {
				for _, bad := range []api.Ext{{A: word}, {B: word}, {A: 1, B: word}, {A: word, B: p - 1}, {A: word, B: word}} {
					checkValid(t, single(bad, i, n), 0, false)
				}
			}
			checkValid(t, single(api.Ext{A: p - 1, B: p - 1}, i, n), n, true)
		}
	}
}

// E1: Lift embeds field elements of slices of all lengths.
func TestLift(t *testing.T) {
	for _, n := range append(lengths(), 200000) {
		words, want := make([]uint64, n), make([]api.Ext, n)
		for i, x := range random(n, 4) {
			words[i], want[i] = x.A, api.Ext{A: x.A}
		}
		check(t, "Lift", mle.Lift(words), want)
	}
	check(t, "Lift", mle.Lift(nil), nil)
	check(t, "Lift", mle.Lift([]uint64{0, 1, p - 1, 1 << 32}), []api.Ext{{}, {A: 1}, {A: p - 1}, {A: 1 << 32}})
}

// E2: the value is that of the polynomial with degree at most 1 in each variable.
func TestEval(t *testing.T) {
	for n := range 8 {
		for _, table := range tables(n) {
			for _, point := range points(n) {
				checkElement(t, "Eval", mle.Eval(table, point), slowEval(table, point))
			}
		}
	}
	checkElement(t, "Eval without variables", mle.Eval([]api.Ext{{A: 3, B: 4}}, nil), api.Ext{A: 3, B: 4})
}

// E2: the values for tables of all lengths, whose multilinear extensions are known: a sum of the variables, and a product
// with one factor for each variable.
func TestEvalOfKnownPolynomials(t *testing.T) {
	for n := range most + 1 {
		for _, point := range points(n) {
			sum := zero
			for k, x := range point {
				sum = ext.Add(sum, ext.MulBase(x, 1<<k))
			}
			checkElement(t, "Eval of a sum", mle.Eval(counting(n), point), sum)
			low, high := random(n, 1), random(n, 2)
			table, product := []api.Ext{one}, one
			for k, x := range point {
				table = slices.Concat(multiple(low[k], table), multiple(high[k], table))
				product = ext.Mul(product, ext.Add(low[k], ext.Mul(x, ext.Sub(high[k], low[k]))))
			}
			checkElement(t, "Eval of a product", mle.Eval(table, point), product)
		}
	}
}

// multiple returns c times l.
func multiple(c api.Ext, l []api.Ext) []api.Ext {
	out := make([]api.Ext, len(l))
	for i, x := range l {
		out[i] = ext.Mul(c, x)
	}
	return out
}

// E2: element i of the bound table is t[2i] + r (t[2i+1] - t[2i]).
func TestBind(t *testing.T) {
	for _, n := range []int{1, 2, 3, 4, 7, 11, most} {
		for _, table := range tables(n) {
			for _, r := range elements() {
				want := make([]api.Ext, len(table)/2)
				for i := range want {
					want[i] = ext.Add(table[2*i], ext.Mul(r, ext.Sub(table[2*i+1], table[2*i])))
				}
				check(t, "Bind", mle.Bind(table, r), want)
			}
		}
	}
}

// E3: Eq is the product of p[k] q[k] + (1 - p[k]) (1 - q[k]) over all coordinates, and one if there are none.
func TestEq(t *testing.T) {
	for n := range most + 1 {
		for _, a := range points(n) {
			for _, b := range points(n) {
				want := one
				for k, x := range a {
					y := b[k]
					want = ext.Mul(want, ext.Add(ext.Mul(x, y), ext.Mul(ext.Sub(one, x), ext.Sub(one, y))))
				}
				checkElement(t, "Eq", mle.Eq(a, b), want)
			}
		}
	}
	checkElement(t, "Eq without coordinates", mle.Eq(nil, nil), one)
}

// E3: EqIndex is Eq of the vertex of the index.
func TestEqIndex(t *testing.T) {
	for n := range most + 1 {
		for _, point := range points(n) {
			for i := 0; i < 1<<n; i += max(1, 1<<n/31) {
				got := mle.EqIndex(i, point)
				checkElement(t, "EqIndex", got, weight(i, point))
				checkElement(t, "EqIndex", got, mle.Eq(vertex(i, n), point))
			}
			checkElement(t, "EqIndex of the last index", mle.EqIndex(1<<n-1, point), weight(1<<n-1, point))
		}
	}
	checkElement(t, "EqIndex without coordinates", mle.EqIndex(0, nil), one)
}

// E3: element i of EqTable is EqIndex of i.
func TestEqTable(t *testing.T) {
	for n := range 9 {
		for _, point := range points(n) {
			checkEqTable(t, point)
		}
	}
	for _, n := range []int{12, 15, most} {
		checkEqTable(t, random(n, 5))
	}
	check(t, "EqTable without coordinates", mle.EqTable(nil), []api.Ext{one})
}

func checkEqTable(t *testing.T, point []api.Ext) {
	t.Helper()
	table := mle.EqTable(point)
	if n, ok := mle.Valid(table); n != len(point) || !ok {
		t.Fatalf("EqTable(%v) has %d elements", point, len(table))
	}
	for i, got := range table {
		checkElement(t, "an element of EqTable", got, weight(i, point))
	}
}

// E4: the result is v + delta EqIndex(i, p).
func TestAccumulate(t *testing.T) {
	for _, n := range []int{0, 1, 2, 5, most} {
		for _, point := range points(n) {
			for _, i := range []int{0, 1 << n / 3, 1 << n / 2, 1<<n - 1} {
				for _, v := range elements() {
					for _, delta := range elements() {
						want := ext.Add(v, ext.Mul(delta, weight(i, point)))
						checkElement(t, "Accumulate", mle.Accumulate(v, i, delta, point), want)
					}
				}
			}
		}
	}
}

// E4: the coordinates are p[k] + t (q[k] - p[k]).
func TestLine(t *testing.T) {
	for _, n := range []int{0, 1, 2, 5, most} {
		for _, a := range points(n) {
			for _, b := range points(n) {
				for _, x := range elements() {
					want := make([]api.Ext, n)
					for k := range want {
						want[k] = ext.Add(a[k], ext.Mul(x, ext.Sub(b[k], a[k])))
					}
					check(t, "Line", mle.Line(a, b, x), want)
				}
			}
		}
	}
}

// The examples of the chapter and of the document.
func TestExamples(t *testing.T) {
	table, point := ints(1, 2, 5, 9), ints(2, 3)
	checkElement(t, "Eval", mle.Eval(table, point), ext.FromInt(33))
	check(t, "Bind", mle.Bind(table, point[0]), ints(3, 13))
	check(t, "EqTable", mle.EqTable(point), ints(2, -4, -3, 6))
	checkElement(t, "Eval", mle.Eval(ints(1, 2, 3, 4), ints(5, 3)), ext.FromInt(12))
	// Changes of elements that Accumulate follows: 1, 2, 5, 9 becomes 1, 2, 5, 4, with the value 33 - 5 * 6.
	checkElement(t, "Accumulate", mle.Accumulate(ext.FromInt(33), 3, ext.FromInt(-5), point), ext.FromInt(3))
	check(t, "Line", mle.Line(point, ints(5, 1), ext.FromInt(2)), ints(8, -1))
}

// Outside of what the chapter specifies, calls still return: points of the wrong lengths, slices that are no tables,
// indices out of range.
func TestUnspecifiedArgumentsReturn(t *testing.T) {
	lists := [][]api.Ext{nil, ints(1), ints(1, 2), ints(1, 2, 3), random(8, 1), random(70, 2)}
	for _, a := range lists {
		for _, b := range lists {
			mle.Eval(a, b)
			mle.Eq(a, b)
			mle.Line(a, b, one)
		}
		for _, i := range []int{-1, 2, 1 << 20, math.MinInt, math.MaxInt} {
			mle.EqIndex(i, a)
			mle.Accumulate(one, i, one, a)
		}
		mle.Bind(a, one)
		mle.EqTable(a)
	}
}
