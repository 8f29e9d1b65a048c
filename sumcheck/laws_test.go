package sumcheck_test

import (
	"slices"
	"sync"
	"testing"

	"attestor/api"
	"attestor/ext"
	"attestor/mle"
	"attestor/poly"
	"attestor/sumcheck"
)

// longSum returns a sum with all 16 variables.
func longSum() api.Sum {
	products := []api.Product{term(one, 0, 1, 4), term(api.Ext{A: 5, B: p - 1}, 2, 0), term(api.Ext{B: 3}, 4)}
	return api.Sum{Tables: tables(most), Terms: products}
}

// lists returns coins for n rounds: elements of all kinds, and such without a pattern.
func lists(n int) [][]api.Ext {
	l := [][]api.Ext{random(n, 1), random(n, 2)}
	for _, x := range elements() {
		l = append(l, slices.Repeat([]api.Ext{x}, n))
	}
	return l
}

// plus returns a + b, elementwise.
func plus(a []api.Ext, b []api.Ext) []api.Ext {
	out := slices.Clone(a)
	for i, x := range b {
		out[i] = ext.Add(a[i], x)
	}
	return out
}

// times returns c times l.
func times(c api.Ext, l []api.Ext) []api.Ext {
	out := make([]api.Ext, len(l))
	for i, x := range l {
		out[i] = ext.Mul(c, x)
	}
	return out
}

// polynomial returns the values at 0, 1, ..., d of a polynomial.
func polynomial(p []api.Ext, d int) []api.Ext {
	var values []api.Ext
	for x := range d + 1 {
		values = append(values, poly.Eval(p, ext.FromInt(int64(x))))
	}
	return values
}

// checkComplete checks that honest rounds are accepted, and that their result is that of the true values.
func checkComplete(t *testing.T, s api.Sum, coins []api.Ext) {
	t.Helper()
	rounds, values := sumcheck.Prove(s, coins)
	check(t, "the values of Prove", values, evaluate(s, coins))
	c := api.Coins{L: coins, Degree: sumcheck.Degree(s)}
	checkVerify(t, sumcheck.Total(s), rounds, c, sumcheck.Final(s, values), api.OK)
}

// P6.1: all results are valid elements, and sums remain valid when they are bound.
func TestResultsAreValid(t *testing.T) {
	for n := range 5 {
		for i, s := range sums(n) {
			for _, x := range newElements(s, random(n, uint64(i))) {
				if !ext.Valid(x) {
					t.Fatalf("a result is %v, which is not valid", x)
				}
			}
			for left := n; left > 0; left-- {
				s = sumcheck.Bind(s, random(1, uint64(left))[0])
				if m, _ := mle.Valid(s.Tables[0]); m != left-1 || !sumcheck.Valid(s) {
					t.Fatalf("a sum with %d variables is bound, and has %d variables or is not valid", left, m)
				}
			}
		}
	}
}

// P6.2: Verify accepts the rounds of Prove, with the result Final of the values of the extensions at the coins.
func TestCompleteness(t *testing.T) {
	for n := range 8 {
		for _, s := range sums(n) {
			for _, coins := range lists(n) {
				checkComplete(t, s, coins)
			}
		}
	}
	checkComplete(t, longSum(), random(most, 3))
	checkComplete(t, longSum(), slices.Repeat([]api.Ext{{A: p - 1, B: p - 1}}, most))
}

// P6.3: the values at 0 and 1 add up to the sum, and the value at r is the sum after Bind with r.
func TestRounds(t *testing.T) {
	for n := 1; n < 8; n++ {
		for _, s := range sums(n) {
			checkRound(t, s, elements())
		}
	}
	checkRound(t, longSum(), random(2, 3))
}

func checkRound(t *testing.T, s api.Sum, at []api.Ext) {
	t.Helper()
	values := sumcheck.Round(s)
	if d := sumcheck.Degree(s); len(values) != d+1 {
		t.Fatalf("a round polynomial of degree %d has %d values", d, len(values))
	}
	checkElement(t, "the sum of the values at 0 and 1", ext.Add(values[0], values[1]), sumcheck.Total(s))
	for _, r := range at {
		checkElement(t, "the value at r", poly.At(values, r), sumcheck.Total(sumcheck.Bind(s, r)))
	}
}

// divergence returns polynomials of degree d whose values at 0 and 1 add up to delta: with a root at the coin, and with
// roots at the coin and at other elements.
func divergence(delta api.Ext, coin api.Ext, d int) [][]api.Ext {
	var out [][]api.Ext
	difference := []api.Ext{one}
	for k := range d {
		root := ext.Add(coin, ext.FromInt(int64(5*k)))
		difference = poly.Mul(difference, []api.Ext{ext.Neg(root), one})
		inverse, err := ext.Inv(ext.Add(poly.Eval(difference, zero), poly.Eval(difference, one)))
		if err == api.OK {
			out = append(out, poly.Scale(difference, ext.Mul(delta, inverse)))
		}
	}
	return out
}

// forge returns accepted rounds for the total of s plus delta: before the round at, the difference to the honest
// polynomials is a constant, and that of the round at itself has a root at the coin.
func forge(s api.Sum, delta api.Ext, coins []api.Ext, at int) []api.Rounds {
	half, _ := ext.Inv(ext.FromInt(2))
	honest, _ := sumcheck.Prove(s, coins)
	rounds := slices.Clone(honest)
	for i := range at {
		delta = ext.Mul(delta, half)
		rounds[i] = plus(honest[i], slices.Repeat([]api.Ext{delta}, len(honest[i])))
	}
	var out []api.Rounds
	d := sumcheck.Degree(s)
	for _, difference := range divergence(delta, coins[at], d) {
		out = append(out, changed(rounds, at, plus(honest[at], polynomial(difference, d))))
	}
	return out
}

// escapes returns the rounds whose polynomial is not the honest one but has the same value at the coin.
func escapes(rounds api.Rounds, honest api.Rounds, coins []api.Ext) []int {
	var out []int
	for i, r := range coins {
		if !slices.Equal(rounds[i], honest[i]) && poly.At(rounds[i], r) == poly.At(honest[i], r) {
			out = append(out, i)
		}
	}
	return out
}

// P6.4: rounds for a wrong value are accepted with the true final value if a coin is a root of the difference to the
// honest polynomial, which has at most as many roots as its degree.
func TestSoundness(t *testing.T) {
	for n := 1; n < 6; n++ {
		for _, s := range sums(n) {
			coins, d := random(n, 4), sumcheck.Degree(s)
			honest, values := sumcheck.Prove(s, coins)
			total, final := sumcheck.Total(s), sumcheck.Final(s, values)
			for at := range n {
				delta := elements()[1+at]
				for _, rounds := range forge(s, delta, coins, at) {
					checkVerify(t, ext.Add(total, delta), rounds, api.Coins{L: coins, Degree: d}, final, api.OK)
					if got := escapes(rounds, honest, coins); !slices.Equal(got, []int{at}) {
						t.Fatalf("the coins of the rounds %v are roots, want round %d", got, at)
					}
					difference := poly.Sub(poly.Interpolate(rounds[at]), poly.Interpolate(honest[at]))
					candidates := append(elements(), coins[at], ext.Add(coins[at], ext.FromInt(5)), ext.Add(coins[at], ext.FromInt(10)))
					if roots := poly.Roots(difference, candidates); len(roots) == 0 || len(roots) > d {
						t.Fatalf("the difference has the roots %v, and the degree is %d", roots, d)
					}
					checkCaught(t, s, ext.Add(total, delta), rounds, coins, at)
				}
			}
		}
	}
}

// checkCaught checks that with other coins from the round at on, rounds for a wrong value are refused, or their result is
// not that of the true values.
func checkCaught(t *testing.T, s api.Sum, wrong api.Ext, rounds api.Rounds, coins []api.Ext, at int) {
	t.Helper()
	other := slices.Concat(coins[:at], random(len(coins)-at, 99))
	honest, values := sumcheck.Prove(s, other)
	// What a cheating prover sends depends on the coins before: the rounds behind the forged one become honest again.
	sent := slices.Concat(rounds[:at+1], honest[at+1:])
	got, err := sumcheck.Verify(wrong, sent, api.Coins{L: other, Degree: sumcheck.Degree(s)})
	if err == api.OK && got == sumcheck.Final(s, values) {
		t.Fatalf("rounds for a wrong value are accepted with the coins %v", other)
	}
}

// P6.4: without a root, a changed value of any round is noticed in this round, in the next one, or in the result.
func TestChangesAreNoticed(t *testing.T) {
	for n := 1; n < 5; n++ {
		for _, s := range sums(n) {
			coins := random(n, 6)
			honest, values := sumcheck.Prove(s, coins)
			total, final := sumcheck.Total(s), sumcheck.Final(s, values)
			for i := range n {
				for j := range honest[i] {
					l := slices.Clone(honest[i])
					l[j] = ext.Add(l[j], one)
					rounds := changed(honest, i, l)
					got, err := sumcheck.Verify(total, rounds, api.Coins{L: coins, Degree: sumcheck.Degree(s)})
					noticed := err == api.ErrSum && got == zero || err == api.OK && i == n-1 && j > 1 && got != final
					if !noticed || len(escapes(rounds, honest, coins)) != 0 {
						t.Fatalf("value %d of round %d of %d is changed, and Verify = %v, %d", j, i, n, got, err)
					}
				}
			}
		}
	}
}

// withCoefficients returns s with the coefficients c.
func withCoefficients(s api.Sum, c []api.Ext) api.Sum {
	out := api.Sum{Tables: s.Tables}
	for i, product := range s.Terms {
		out.Terms = append(out.Terms, term(c[i], product.T...))
	}
	return out
}

// P6.5: sums and round polynomials are linear in the coefficients.
func TestLinearity(t *testing.T) {
	for n := range 6 {
		for _, s := range sums(n) {
			a, b := random(len(s.Terms), 8), random(len(s.Terms), 9)
			first, second := withCoefficients(s, a), withCoefficients(s, b)
			for _, c := range elements() {
				both := withCoefficients(s, plus(a, times(c, b)))
				want := ext.Add(sumcheck.Total(first), ext.Mul(c, sumcheck.Total(second)))
				checkElement(t, "Total of a combination", sumcheck.Total(both), want)
				if n > 0 {
					want := plus(sumcheck.Round(first), times(c, sumcheck.Round(second)))
					check(t, "Round of a combination", sumcheck.Round(both), want)
				}
			}
			none := withCoefficients(s, make([]api.Ext, len(s.Terms)))
			checkElement(t, "Total without coefficients", sumcheck.Total(none), zero)
		}
	}
}

// P6.5: a sum is the sum of the sums for its terms.
func TestTermsAddUp(t *testing.T) {
	for n := 1; n < 6; n++ {
		for _, s := range sums(n) {
			total, round := zero, make([]api.Ext, sumcheck.Degree(s)+1)
			for _, product := range s.Terms {
				single := api.Sum{Tables: s.Tables, Terms: []api.Product{product}}
				values := poly.Interpolate(sumcheck.Round(single))
				total = ext.Add(total, sumcheck.Total(single))
				round = plus(round, polynomial(values, sumcheck.Degree(s)))
			}
			checkElement(t, "Total", sumcheck.Total(s), total)
			check(t, "Round", sumcheck.Round(s), round)
		}
	}
}

// newElements calls all functions with s and with coins for its variables, and returns all elements of the results.
func newElements(s api.Sum, coins []api.Ext) []api.Ext {
	rounds, values := sumcheck.Prove(s, coins)
	last, err := sumcheck.Verify(sumcheck.Total(s), rounds, api.Coins{L: coins, Degree: sumcheck.Degree(s)})
	out := []api.Ext{sumcheck.Total(s), sumcheck.Final(s, values), last, ext.FromInt(int64(err))}
	out = slices.Concat(append([][]api.Ext{out, values}, rounds...)...)
	if len(coins) > 0 {
		bound := sumcheck.Bind(s, coins[0])
		out = slices.Concat(append([][]api.Ext{out, sumcheck.Round(s)}, bound.Tables...)...)
		for _, product := range bound.Terms {
			out = append(out, product.C)
		}
	}
	return out
}

// P2: the same arguments give the same results, whatever was called before or is called at the same time.
func TestResultsRepeat(t *testing.T) {
	all := func(n int) []api.Ext {
		var out []api.Ext
		for i, s := range sums(n) {
			out = append(out, newElements(s, random(n, uint64(i)))...)
		}
		return out
	}
	want := all(4)
	all(2)
	all(6)
	repeated := make([]bool, 8)
	var group sync.WaitGroup
	for i := range repeated {
		group.Go(func() { repeated[i] = slices.Equal(all(4), want) })
	}
	group.Wait()
	if slices.Contains(repeated, false) {
		t.Fatal("a repeated call has another result")
	}
}

// overwrite changes all elements of l, and the memory behind them.
func overwrite(l []api.Ext) {
	l = l[:cap(l)]
	for i := range l {
		l[i] = api.Ext{A: 77, B: 77}
	}
}

// overwriteSum changes everything in s.
func overwriteSum(s api.Sum) {
	for j := range s.Tables {
		overwrite(s.Tables[j])
		s.Tables[j] = nil
	}
	for i := range s.Terms {
		clear(s.Terms[i].T)
		s.Terms[i] = api.Product{}
	}
}

// copyOf returns a copy of s that shares no memory with it.
func copyOf(s api.Sum) api.Sum {
	var out api.Sum
	for _, table := range s.Tables {
		out.Tables = append(out.Tables, slices.Clone(table))
	}
	for _, product := range s.Terms {
		out.Terms = append(out.Terms, term(product.C, slices.Clone(product.T)...))
	}
	return out
}

// P2: arguments and the memory behind them stay as they are, and a change of a result changes no argument.
func TestArgumentsStay(t *testing.T) {
	for n := range 5 {
		for _, s := range sums(n) {
			// The lists of s have room behind their ends, which must stay unused.
			s.Tables, s.Terms = append(s.Tables, random(3, 1))[:len(s.Tables)], append(s.Terms, term(one, 9))[:len(s.Terms)]
			wide := api.Sum{Tables: s.Tables[:len(s.Tables)+1], Terms: s.Terms[:len(s.Terms)+1]}
			memory := random(n+3, 2)
			coins := memory[:n]
			want := copyOf(wide)
			rounds, values := sumcheck.Prove(s, coins)
			newElements(s, coins)
			checkSum(t, "the argument", wide, want)
			overwrite(values)
			for i, l := range rounds {
				overwrite(l)
				rounds[i] = nil
			}
			if n > 0 {
				overwrite(sumcheck.Round(s))
				overwriteSum(sumcheck.Bind(s, coins[0]))
			}
			checkSum(t, "the argument", wide, want)
			check(t, "the coins", memory, random(n+3, 2))
		}
	}
}

// P2: Verify and Final leave their arguments as they are.
func TestProofsStay(t *testing.T) {
	for _, d := range []int{1, 2, 3} {
		rounds, coins, _ := chain(one, 6, d)
		var copies api.Rounds
		for _, l := range rounds {
			copies = append(copies, slices.Clone(l))
		}
		list := slices.Clone(coins.L)
		sumcheck.Verify(one, rounds, coins)
		sumcheck.Verify(zero, rounds, coins)
		checkRounds(t, "the rounds", rounds, copies)
		check(t, "the coins", coins.L, list)
	}
	s, values := sums(2)[4], random(5, 3)
	sumcheck.Final(s, values)
	check(t, "the values", values, random(5, 3))
}
