package sumcheck_test

import (
	"math"
	"slices"
	"testing"

	"attestor/api"
	"attestor/ext"
	"attestor/mle"
	"attestor/poly"
	"attestor/sumcheck"
)

const (
	p    = uint64(api.Prime)
	most = 16 // variables
)

var (
	zero = api.Ext{}
	one  = api.Ext{A: 1}
)

// ints returns the elements of integers.
func ints(l ...int64) []api.Ext {
	var out []api.Ext
	for _, n := range l {
		out = append(out, ext.FromInt(n))
	}
	return out
}

// random returns n elements without a pattern, always the same for the same seed.
func random(n int, seed uint64) []api.Ext {
	x := seed
	next := func() uint64 {
		x = x*6364136223846793005 + 1442695040888963407
		return (x ^ x>>29) % p
	}
	l := make([]api.Ext, n)
	for i := range l {
		l[i] = api.Ext{A: next(), B: next()}
	}
	return l
}

// elements returns elements of the base field, multiples of X and elements without a pattern.
func elements() []api.Ext {
	l := []api.Ext{zero, one, {A: 2}, {A: p - 1}, {A: 1 << 32}, {B: 1}, {B: p - 1}, {A: p - 1, B: p - 1}}
	return append(l, random(3, 7)...)
}

// tables returns five tables with n variables.
func tables(n int) [][]api.Ext {
	last := make([]api.Ext, 1<<n)
	last[len(last)-1] = api.Ext{A: 1 << 40, B: p - 1}
	return [][]api.Ext{
		random(1<<n, uint64(n)), slices.Repeat([]api.Ext{{A: p - 1, B: 3}}, 1<<n), last, make([]api.Ext, 1<<n),
		random(1<<n, uint64(n)+100),
	}
}

// term returns the term with a coefficient and the indices of its tables.
func term(c api.Ext, t ...int) api.Product { return api.Product{C: c, T: t} }

// terms returns lists of terms for five tables: none, of each degree, of mixed degrees in any order, with tables that
// occur several times, and with coefficients that are zero or add up to zero.
func terms() [][]api.Product {
	c := random(8, 5)
	return [][]api.Product{
		nil, {term(c[0], 0)}, {term(one, 4), term(c[1], 1)}, {term(c[2], 0, 4)}, {term(c[3], 0, 0)},
		{term(c[4], 4, 1, 0)}, {term(one, 0, 0, 0)}, {term(api.Ext{B: 1}, 4, 0, 4)}, {term(zero, 0, 1, 4)},
		{term(c[5], 0), term(c[6], 2, 4), term(c[7], 4, 0, 1), term(c[0], 3)},
		{term(c[1], 0, 4, 2), term(c[2], 1, 1), term(c[3], 4)}, {term(c[4], 0, 4), term(ext.Neg(c[4]), 4, 0)},
	}
}

// sums returns valid sums with n variables.
func sums(n int) []api.Sum {
	l := []api.Sum{{Tables: tables(n)[:1]}, {Tables: tables(n)[:1], Terms: []api.Product{term(one, 0)}}}
	for _, products := range terms() {
		l = append(l, api.Sum{Tables: tables(n), Terms: products})
	}
	return l
}

// powers returns the sum of the powers k of 1, 2, 3, 4.
func powers(k int) api.Sum {
	return api.Sum{Tables: [][]api.Ext{ints(1, 2, 3, 4)}, Terms: []api.Product{{C: one, T: make([]int, k)}}}
}

// degree is the largest number of tables in a term, and 1 without terms.
func degree(s api.Sum) int {
	d := 1
	for _, product := range s.Terms {
		if len(product.T) > d {
			d = len(product.T)
		}
	}
	return d
}

// valueOf is the sum of the terms for given values of the tables.
func valueOf(s api.Sum, values []api.Ext) api.Ext {
	sum := zero
	for _, product := range s.Terms {
		factors := zero
		for k, j := range product.T {
			if k == 0 {
				factors = values[j]
			} else {
				factors = ext.Mul(values[j], factors)
			}
		}
		sum = ext.Add(sum, ext.Mul(factors, product.C))
	}
	return sum
}

// evaluate returns the values of the multilinear extensions of all tables at a point.
func evaluate(s api.Sum, point []api.Ext) []api.Ext {
	var values []api.Ext
	for _, table := range s.Tables {
		values = append(values, mle.Eval(table, point))
	}
	return values
}

// sumBehind is the sum over all vertices of the variables behind the first ones, which are fixed to the coordinates of a
// point.
func sumBehind(s api.Sum, fixed []api.Ext) api.Ext {
	sum := zero
	n, _ := mle.Valid(s.Tables[0])
	for i := range 1 << (n - len(fixed)) {
		point := slices.Clone(fixed)
		for k := range n - len(fixed) {
			point = append(point, ext.FromInt(int64(i>>k&1)))
		}
		sum = ext.Add(sum, valueOf(s, evaluate(s, point)))
	}
	return sum
}

// slowRound is the round polynomial after the first variables have been fixed, by its definition.
func slowRound(s api.Sum, fixed []api.Ext) []api.Ext {
	var values []api.Ext
	for x := range degree(s) + 1 {
		values = append(values, sumBehind(s, append(slices.Clone(fixed), ext.FromInt(int64(x)))))
	}
	return values
}

func check(t *testing.T, call string, got []api.Ext, want []api.Ext) {
	t.Helper()
	if !slices.Equal(got, want) {
		t.Fatalf("%s = %v, want %v", call, got, want)
	}
}

func checkElement(t *testing.T, call string, got api.Ext, want api.Ext) {
	t.Helper()
	if got != want {
		t.Fatalf("%s = %v, want %v", call, got, want)
	}
}

func checkRounds(t *testing.T, call string, got api.Rounds, want api.Rounds) {
	t.Helper()
	if !slices.EqualFunc(got, want, slices.Equal[[]api.Ext]) {
		t.Fatalf("%s = %v, want %v", call, got, want)
	}
}

func checkSum(t *testing.T, call string, got api.Sum, want api.Sum) {
	t.Helper()
	sameTerm := func(a api.Product, b api.Product) bool { return a.C == b.C && slices.Equal(a.T, b.T) }
	if !slices.EqualFunc(got.Tables, want.Tables, slices.Equal[[]api.Ext]) || !slices.EqualFunc(got.Terms, want.Terms, sameTerm) {
		t.Fatalf("%s = %v, want %v", call, got, want)
	}
}

func checkVerify(t *testing.T, v api.Ext, rounds api.Rounds, c api.Coins, want api.Ext, wantErr api.Errno) {
	t.Helper()
	got, err := sumcheck.Verify(v, rounds, c)
	if got != want || err != wantErr {
		t.Fatalf("Verify(%v, %v, %v) = %v, %d, want %v, %d", v, rounds, c, got, err, want, wantErr)
	}
}

func checkValid(t *testing.T, what string, s api.Sum, want bool) {
	t.Helper()
	if got := sumcheck.Valid(s); got != want {
		t.Fatalf("Valid of %s = %v, want %v", what, got, want)
	}
}

// F1: sums with 0 to 16 variables and any terms of 1 to 3 tables are valid.
func TestValid(t *testing.T) {
	for n := range most + 1 {
		for _, s := range sums(n) {
			checkValid(t, "a sum", s, true)
		}
	}
	many := api.Sum{Terms: slices.Repeat([]api.Product{term(one, 299, 0, 299)}, 500)}
	for i := range 300 {
		many.Tables = append(many.Tables, random(2, uint64(i)))
	}
	checkValid(t, "many tables and terms", many, true)
	edge := api.Ext{A: p - 1, B: p - 1}
	checkValid(t, "the largest components", api.Sum{Tables: [][]api.Ext{{edge}}, Terms: []api.Product{term(edge, 0)}}, true)
}

// F1: a sum has at least one table, and all tables have the same length, a power of two up to 65536.
func TestInvalidTables(t *testing.T) {
	checkValid(t, "the zero sum", api.Sum{}, false)
	checkValid(t, "no tables", api.Sum{Tables: [][]api.Ext{}}, false)
	checkValid(t, "a term without tables", api.Sum{Terms: []api.Product{term(one)}}, false)
	for _, n := range []int{0, 3, 5, 6, 7, 65535, 65537, 131072} {
		table := make([]api.Ext, n)
		for _, l := range [][][]api.Ext{{table}, {table, table}, {make([]api.Ext, 4), table}, {table, make([]api.Ext, 4)}} {
			checkValid(t, "tables of a wrong length", api.Sum{Tables: l}, false)
		}
	}
	for _, n := range []int{1, 2, 8, 65536} {
		four, other := make([]api.Ext, 4), make([]api.Ext, n)
		for _, l := range [][][]api.Ext{{four, other}, {other, four}, {four, other, four}, {four, four, other}, {other, four, four}} {
			checkValid(t, "tables of different lengths", api.Sum{Tables: l, Terms: []api.Product{term(one, 0)}}, false)
		}
	}
}

// F1: one component of one element or of one coefficient is enough to make a sum invalid.
func TestInvalidElements(t *testing.T) {
	for _, word := range []uint64{p, p + 1, math.MaxUint64} {
		for _, bad := range []api.Ext{{A: word}, {B: word}, {A: 1, B: word}, {A: word, B: p - 1}, {A: word, B: word}} {
			for _, n := range []int{0, 1, 4} {
				for j := range tables(n) {
					for _, i := range []int{0, 1 << n / 2, 1<<n - 1} {
						l := tables(n)
						l[j][i] = bad
						checkValid(t, "an element", api.Sum{Tables: l, Terms: []api.Product{term(one, 0)}}, false)
					}
				}
			}
			for j := range 3 {
				l := []api.Product{term(one, 0), term(one, 1, 2), term(one, 3, 4, 3)}
				l[j].C = bad
				checkValid(t, "a coefficient", api.Sum{Tables: tables(2), Terms: l}, false)
			}
		}
	}
}

// F1: every term has 1 to 3 indices of tables.
func TestInvalidTerms(t *testing.T) {
	for _, l := range [][]int{{}, {0, 0, 0, 0}, {0, 1, 2, 3}, {0, 0, 0, 0, 0}, {-1}, {5}, {0, -1}, {5, 0}, {0, 1, 5}, {0, 5, 1},
		{-1, 1, 1}, {math.MinInt}, {math.MaxInt}, {0, math.MaxInt}, {1 << 32}} {
		bad := term(one, l...)
		for _, products := range [][]api.Product{{bad}, {bad, term(one, 0)}, {term(one, 0, 1, 2), bad}, {term(one, 0), bad, term(one, 0)}} {
			checkValid(t, "a bad term", api.Sum{Tables: tables(2), Terms: products}, false)
		}
	}
	checkValid(t, "a nil list of indices", api.Sum{Tables: tables(2), Terms: []api.Product{{C: one}}}, false)
	checkValid(t, "an index for one more table", api.Sum{Tables: tables(2)[:4], Terms: []api.Product{term(one, 4)}}, false)
	checkValid(t, "an index for the last table", api.Sum{Tables: tables(2)[:4], Terms: []api.Product{term(one, 3)}}, true)
}

// F1: the degree is the largest number of tables in a term, wherever it stands, and 1 without terms.
func TestDegree(t *testing.T) {
	checkDegree := func(s api.Sum, want int) {
		t.Helper()
		if got := sumcheck.Degree(s); got != want {
			t.Fatalf("Degree of the terms %v = %d, want %d", s.Terms, got, want)
		}
	}
	for n := range 4 {
		for _, s := range sums(n) {
			checkDegree(s, degree(s))
		}
	}
	checkDegree(api.Sum{Tables: tables(2)}, 1)
	for k := range 3 {
		checkDegree(powers(k+1), k+1)
	}
	checkDegree(api.Sum{Tables: tables(1), Terms: []api.Product{term(one, 0), term(zero, 1, 1, 1), term(one, 2, 3)}}, 3)
}

// F1: the value of the sum is the sum of the values of all terms at all indices.
func TestTotal(t *testing.T) {
	for n := range 7 {
		for _, s := range sums(n) {
			want := zero
			for i := range 1 << n {
				var values []api.Ext
				for _, table := range s.Tables {
					values = append(values, table[i])
				}
				want = ext.Add(want, valueOf(s, values))
			}
			checkElement(t, "Total", sumcheck.Total(s), want)
		}
	}
	checkElement(t, "Total without terms", sumcheck.Total(api.Sum{Tables: tables(3)}), zero)
	c, x := api.Ext{A: 3, B: 4}, api.Ext{A: 5, B: p - 6}
	single := api.Sum{Tables: [][]api.Ext{{x}}, Terms: []api.Product{term(c, 0, 0)}}
	checkElement(t, "Total without variables", sumcheck.Total(single), ext.Mul(c, ext.Mul(x, x)))
}

// F1: Final is the sum of the coefficients times the products of the values.
func TestFinal(t *testing.T) {
	for _, n := range []int{0, 3} {
		for i, s := range sums(n) {
			values := random(len(s.Tables), uint64(i))
			checkElement(t, "Final", sumcheck.Final(s, values), valueOf(s, values))
			checkElement(t, "Final of zeros", sumcheck.Final(s, make([]api.Ext, len(s.Tables))), zero)
		}
	}
	s := api.Sum{Tables: [][]api.Ext{ints(0, 0), ints(0, 0)}, Terms: []api.Product{term(ext.FromInt(2), 0, 1, 1), term(one, 0)}}
	checkElement(t, "Final", sumcheck.Final(s, ints(3, 5)), ext.FromInt(153))
}

// F2: the values of the round polynomial at 0, 1, ..., Degree(s), which is the sum with variable 0 fixed.
func TestRound(t *testing.T) {
	for n := 1; n < 6; n++ {
		for _, s := range sums(n) {
			check(t, "Round", sumcheck.Round(s), slowRound(s, nil))
		}
	}
	check(t, "Round without terms", sumcheck.Round(api.Sum{Tables: tables(3)}), []api.Ext{zero, zero})
}

// F2: all tables are bound, used or not, and the terms stay.
func TestBind(t *testing.T) {
	for _, n := range []int{1, 2, 5} {
		for _, s := range sums(n) {
			for _, r := range elements() {
				want := api.Sum{Terms: s.Terms}
				for _, table := range s.Tables {
					want.Tables = append(want.Tables, mle.Bind(table, r))
				}
				checkSum(t, "Bind", sumcheck.Bind(s, r), want)
			}
		}
	}
}

// F3: round i is that of the sum with the variables before i fixed to their coins; the values are the remaining elements.
func TestProve(t *testing.T) {
	for n := range 6 {
		for _, s := range sums(n) {
			for _, coins := range [][]api.Ext{random(n, 1), make([]api.Ext, n), slices.Repeat([]api.Ext{{B: 1}}, n)} {
				var wantRounds api.Rounds
				wantValues, current := []api.Ext{}, s
				for i, r := range coins {
					check(t, "Round", sumcheck.Round(current), slowRound(s, coins[:i]))
					wantRounds = append(wantRounds, sumcheck.Round(current))
					current = sumcheck.Bind(current, r)
				}
				for _, table := range current.Tables {
					wantValues = append(wantValues, table[0])
				}
				rounds, values := sumcheck.Prove(s, coins)
				checkRounds(t, "Prove", rounds, wantRounds)
				check(t, "the values of Prove", values, wantValues)
			}
		}
	}
	s := api.Sum{Tables: [][]api.Ext{ints(7), ints(8)}, Terms: []api.Product{term(one, 0)}}
	rounds, values := sumcheck.Prove(s, nil)
	checkRounds(t, "Prove without variables", rounds, nil)
	check(t, "the values of Prove without variables", values, ints(7, 8))
}

// F4: the last claim is the value of the last polynomial at its coin; without rounds it is the first claim.
func TestVerify(t *testing.T) {
	for _, d := range []int{1, 2, 3} {
		for _, v := range elements() {
			checkVerify(t, v, nil, api.Coins{Degree: d}, v, api.OK)
			checkVerify(t, v, api.Rounds{}, api.Coins{L: []api.Ext{}, Degree: d}, v, api.OK)
			for _, n := range []int{1, 2, 16, 28, 100} {
				rounds, coins, last := chain(v, n, d)
				checkVerify(t, v, rounds, coins, last, api.OK)
			}
		}
	}
	// The polynomial 2 + 3 X of degree 1, 2 or 3.
	for _, l := range [][]api.Ext{ints(2, 5), ints(2, 5, 8), ints(2, 5, 8, 11)} {
		coins := api.Coins{L: ints(10), Degree: len(l) - 1}
		checkVerify(t, ext.FromInt(7), api.Rounds{l}, coins, ext.FromInt(32), api.OK)
	}
}

// chain returns n rounds of the degree d for the claim v that are accepted, their coins, and the last claim.
func chain(v api.Ext, n int, d int) (api.Rounds, api.Coins, api.Ext) {
	coins := random(n, uint64(d))
	var rounds api.Rounds
	for i, r := range coins {
		values := random(d+1, uint64(i)+3)
		values[1] = ext.Sub(v, values[0])
		rounds = append(rounds, values)
		v = poly.Eval(poly.Interpolate(values), r)
	}
	return rounds, api.Coins{L: coins, Degree: d}, v
}

// F4: ErrArg if the degree is not 1, 2 or 3 or there is not one coin for each round, whatever the rounds are.
func TestVerifyArguments(t *testing.T) {
	good, coins, _ := chain(one, 3, 2)
	for _, d := range []int{math.MinInt, -1, 0, 4, 5, math.MaxInt} {
		checkVerify(t, one, nil, api.Coins{Degree: d}, zero, api.ErrArg)
		checkVerify(t, one, good, api.Coins{L: coins.L, Degree: d}, zero, api.ErrArg)
		values := make([]api.Ext, max(0, min(d, 9))+1)
		checkVerify(t, zero, api.Rounds{values}, api.Coins{L: coins.L[:1], Degree: d}, zero, api.ErrArg)
	}
	refused := api.Rounds{ints(1, 2), nil, ints(1, 2, 3, 4)}
	for _, rounds := range []api.Rounds{good, refused} {
		for _, l := range [][]api.Ext{nil, coins.L[:2], append(slices.Clone(coins.L), one)} {
			checkVerify(t, one, rounds, api.Coins{L: l, Degree: 2}, zero, api.ErrArg)
		}
		for _, l := range []api.Rounds{nil, rounds[:2], append(slices.Clone(rounds), rounds[2])} {
			checkVerify(t, one, l, coins, zero, api.ErrArg)
		}
	}
}

// changed returns the rounds with other values in round i.
func changed(rounds api.Rounds, i int, values []api.Ext) api.Rounds {
	out := slices.Clone(rounds)
	out[i] = values
	return out
}

// F4: ErrDegree for any round with another number of values, also if its values 0 and 1 are wrong or missing.
func TestVerifyDegree(t *testing.T) {
	for _, d := range []int{1, 2, 3} {
		for _, v := range []api.Ext{zero, one, {A: 5, B: 6}} {
			rounds, coins, _ := chain(v, 4, d)
			for i, values := range rounds {
				longer := append(slices.Clone(values), one, one)
				for _, bad := range [][]api.Ext{nil, values[:1], values[:d], longer[:d+2], longer, ints(1, 2, 3, 4, 5, 6)} {
					checkVerify(t, v, changed(rounds, i, bad), coins, zero, api.ErrDegree)
				}
			}
			checkVerify(t, v, rounds, api.Coins{L: coins.L, Degree: d%3 + 1}, zero, api.ErrDegree)
		}
	}
}

// F4: ErrSum if the values 0 and 1 of any round do not add up to its claim.
func TestVerifySum(t *testing.T) {
	for _, d := range []int{1, 2, 3} {
		for _, v := range elements() {
			rounds, coins, last := chain(v, 4, d)
			for i, values := range rounds {
				for j := range 2 {
					for _, delta := range elements()[1:] {
						bad := slices.Clone(values)
						bad[j] = ext.Add(bad[j], delta)
						checkVerify(t, v, changed(rounds, i, bad), coins, zero, api.ErrSum)
					}
				}
			}
			for _, delta := range elements()[1:] {
				checkVerify(t, ext.Add(v, delta), rounds, coins, zero, api.ErrSum)
			}
			checkVerify(t, v, rounds, coins, last, api.OK)
		}
	}
}

// F4: the rounds are processed in order, so that the error is that of the first round that has one.
func TestVerifyOrder(t *testing.T) {
	v := api.Ext{A: 8, B: 9}
	rounds, coins, _ := chain(v, 5, 2)
	short, wrong := ints(1, 2), ints(1, 2, 3)
	for i := range rounds {
		for j := i + 1; j < len(rounds); j++ {
			checkVerify(t, v, changed(changed(rounds, i, short), j, wrong), coins, zero, api.ErrDegree)
			checkVerify(t, v, changed(changed(rounds, i, wrong), j, short), coins, zero, api.ErrSum)
		}
	}
	checkVerify(t, one, changed(rounds, 0, short), coins, zero, api.ErrDegree)
	checkVerify(t, one, changed(rounds, 1, short), coins, zero, api.ErrSum)
}

// The examples of the chapter and of the document.
func TestExamples(t *testing.T) {
	checkElement(t, "Total", sumcheck.Total(powers(1)), ext.FromInt(10))
	check(t, "Round", sumcheck.Round(powers(1)), ints(4, 6))
	checkElement(t, "Total", sumcheck.Total(powers(2)), ext.FromInt(30))
	check(t, "Round", sumcheck.Round(powers(2)), ints(10, 20, 34))
	// With variable 0 fixed to 5 the table becomes 6, 8, with the sum 100 of the squares.
	checkSum(t, "Bind", sumcheck.Bind(powers(2), ext.FromInt(5)), api.Sum{Tables: [][]api.Ext{ints(6, 8)}, Terms: powers(2).Terms})
	rounds, values := sumcheck.Prove(powers(2), ints(5, 3))
	checkRounds(t, "Prove", rounds, api.Rounds{ints(10, 20, 34), ints(36, 64, 100)})
	check(t, "the values of Prove", values, ints(12))
	checkVerify(t, ext.FromInt(30), rounds, api.Coins{L: ints(5, 3), Degree: 2}, ext.FromInt(144), api.OK)
}

// Outside of what the chapter specifies, calls still return: sums that are not valid, numbers of coins, of values and of
// variables that do not match.
func TestUnspecifiedArgumentsReturn(t *testing.T) {
	bad := []api.Sum{
		{}, {Terms: []api.Product{term(one, 0)}}, {Tables: [][]api.Ext{nil}, Terms: []api.Product{term(one, 0)}},
		{Tables: [][]api.Ext{ints(1, 2, 3)}, Terms: []api.Product{term(one, 0)}},
		{Tables: [][]api.Ext{ints(1, 2), ints(1), nil}, Terms: []api.Product{term(one, 0, 1, 2)}},
		{Tables: [][]api.Ext{ints(1), ints(1, 2, 3, 4)}, Terms: []api.Product{term(one, 0, 1)}},
		{Tables: tables(2), Terms: []api.Product{term(one), term(one, 0, 0, 0, 0, 0), term(one, -1), term(one, 5, math.MaxInt)}},
		{Tables: [][]api.Ext{{{A: p, B: math.MaxUint64}, {A: math.MaxUint64}}}, Terms: []api.Product{term(api.Ext{B: p}, 0)}},
	}
	for _, s := range slices.Concat(bad, sums(0), sums(1), sums(2)) {
		sumcheck.Degree(s)
		sumcheck.Total(s)
		sumcheck.Round(s)
		for _, l := range [][]api.Ext{nil, ints(1), ints(1, 2), ints(1, 2, 3, 4, 5), {{A: p, B: p}}, random(70, 2)} {
			sumcheck.Prove(s, l)
			sumcheck.Final(s, l)
		}
		for _, r := range append(elements(), api.Ext{A: p, B: math.MaxUint64}) {
			sumcheck.Bind(sumcheck.Bind(s, r), r)
		}
	}
	for _, x := range []api.Ext{{A: p}, {B: math.MaxUint64}, {A: math.MaxUint64, B: math.MaxUint64}} {
		sumcheck.Verify(x, api.Rounds{{x, x}}, api.Coins{L: []api.Ext{x}, Degree: 1})
		sumcheck.Verify(ext.Add(x, x), api.Rounds{{x, x, x, x}}, api.Coins{L: []api.Ext{x}, Degree: 3})
	}
}
