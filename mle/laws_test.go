package mle_test

import (
	"slices"
	"sync"
	"testing"

	"attestor/api"
	"attestor/ext"
	"attestor/mle"
	"attestor/poly"
)

// sum returns the sum of the elements of t.
func sum(t []api.Ext) api.Ext {
	total := zero
	for _, x := range t {
		total = ext.Add(total, x)
	}
	return total
}

// inner returns the inner product of two tables.
func inner(a []api.Ext, b []api.Ext) api.Ext {
	total := zero
	for i, x := range a {
		total = ext.Add(total, ext.Mul(x, b[i]))
	}
	return total
}

// added returns a + b, elementwise.
func added(a []api.Ext, b []api.Ext) []api.Ext {
	out := make([]api.Ext, len(a))
	for i, x := range a {
		out[i] = ext.Add(x, b[i])
	}
	return out
}

// with returns the point with x in place of coordinate k.
func with(point []api.Ext, k int, x api.Ext) []api.Ext {
	out := slices.Clone(point)
	out[k] = x
	return out
}

// newElements calls every function that returns an element, with all tables and points with n variables.
func newElements(n int) []api.Ext {
	var out []api.Ext
	e := elements()
	for j, point := range points(n) {
		for _, table := range tables(n) {
			out = append(out, mle.Eval(table, point))
		}
		for _, other := range points(n) {
			out = append(out, mle.Eq(point, other))
		}
		for i := range 1 << n {
			out = append(out, mle.EqIndex(i, point), mle.Accumulate(e[j%len(e)], i, e[i%len(e)], point))
		}
	}
	return out
}

// newSlices calls every function that returns a slice, with all tables and points with n variables.
func newSlices(n int) [][]api.Ext {
	out := [][]api.Ext{mle.Lift([]uint64{0, 1, p - 1, uint64(n)})}
	for _, x := range elements() {
		for _, table := range tables(n) {
			out = append(out, mle.Bind(table, x))
		}
		for _, point := range points(n) {
			out = append(out, mle.EqTable(point))
			for _, other := range points(n) {
				out = append(out, mle.Line(point, other, x))
			}
		}
	}
	return out
}

// P5.1: all results are valid elements.
func TestResultsAreValid(t *testing.T) {
	for n := range 5 {
		for _, l := range append(newSlices(n), newElements(n)) {
			for _, x := range l {
				if !ext.Valid(x) {
					t.Fatalf("a result is %v, which is not valid", x)
				}
			}
		}
	}
}

// P5.2: at the vertices, the extension has the values of the table.
func TestValuesAtVertices(t *testing.T) {
	for n := range 8 {
		for _, table := range tables(n) {
			for i, want := range table {
				checkElement(t, "the value at a vertex", mle.Eval(table, vertex(i, n)), want)
			}
		}
	}
	table := random(longest, 1)
	for _, i := range []int{0, 1, 1 << 15, 12345, longest - 2, longest - 1} {
		checkElement(t, "the value at a vertex", mle.Eval(table, vertex(i, most)), table[i])
	}
}

// P5.2: the value is an affine function of each coordinate.
func TestAffine(t *testing.T) {
	for _, n := range []int{1, 2, 3, 5, most} {
		table := random(1<<n, uint64(n))
		point := random(n, uint64(n)+1)
		for k := range n {
			at := func(x api.Ext) api.Ext { return mle.Eval(table, with(point, k, x)) }
			start := at(zero)
			slope := ext.Sub(at(one), start)
			for _, x := range elements()[2:] {
				checkElement(t, "the value on a line along an axis", at(x), ext.Add(start, ext.Mul(x, slope)))
			}
		}
	}
}

// P5.3: binding a variable, or all of them, and evaluating at the remaining coordinates is evaluating at the point.
func TestBinding(t *testing.T) {
	for _, n := range []int{0, 1, 2, 3, 6, most} {
		for _, point := range [][]api.Ext{random(n, 1), vertex(1<<n/3, n), halves(n)} {
			table := random(1<<n, uint64(n))
			want := mle.Eval(table, point)
			for k, r := range point {
				table = mle.Bind(table, r)
				if left, ok := mle.Valid(table); left != n-k-1 || !ok {
					t.Fatalf("%d of %d variables are bound, and the table has %d elements", k+1, n, len(table))
				}
				checkElement(t, "the value of the bound table", mle.Eval(table, point[k+1:]), want)
			}
			check(t, "the table without variables", table, []api.Ext{want})
		}
	}
}

// P5.4: the values of sums and of multiples of tables are the sums and the multiples of the values.
func TestLinearity(t *testing.T) {
	for n := range 6 {
		for _, point := range points(n) {
			for _, a := range tables(n) {
				value := mle.Eval(a, point)
				for _, b := range tables(n) {
					checkElement(t, "the value of a sum", mle.Eval(added(a, b), point), ext.Add(value, mle.Eval(b, point)))
				}
				for _, c := range elements() {
					checkElement(t, "the value of a multiple", mle.Eval(multiple(c, a), point), ext.Mul(c, value))
				}
			}
		}
	}
}

// P5.5: the elements of EqTable add up to one and are the weights of the elements of every table.
func TestWeights(t *testing.T) {
	for _, n := range []int{0, 1, 2, 3, 6, most} {
		for _, point := range [][]api.Ext{random(n, 1), vertex(1<<n/3, n), halves(n), slices.Repeat([]api.Ext{{B: 1}}, n)} {
			weights := mle.EqTable(point)
			checkElement(t, "the sum of the weights", sum(weights), one)
			for _, table := range tables(n) {
				checkElement(t, "the inner product", inner(table, weights), mle.Eval(table, point))
			}
		}
	}
}

// P5.5: Eq is symmetric; of two vertices it is 1 or 0, and EqTable of a vertex is 1 at its index and 0 elsewhere.
func TestEquality(t *testing.T) {
	for n := range most + 1 {
		for _, a := range points(n) {
			for _, b := range points(n) {
				checkElement(t, "Eq", mle.Eq(a, b), mle.Eq(b, a))
			}
		}
	}
	for n := range 6 {
		for i := range 1 << n {
			check(t, "EqTable of a vertex", mle.EqTable(vertex(i, n)), single(one, i, n))
			for j := range 1 << n {
				want := zero
				if i == j {
					want = one
				}
				checkElement(t, "Eq of two vertices", mle.Eq(vertex(i, n), vertex(j, n)), want)
			}
		}
	}
}

// change adds delta to an element of a table.
type change struct {
	i     int
	delta api.Ext
}

// changes returns changes of a table with n variables, several of the same elements, and such that undo others.
func changes(n int) []change {
	var l []change
	for j, delta := range append(elements(), random(40, 9)...) {
		i := j * j * 7 % (1 << n)
		l = append(l, change{i, delta}, change{(i + j) % (1 << n), ext.Neg(delta)})
	}
	return append(l, change{0, one}, change{1<<n - 1, one}, change{0, ext.Neg(one)})
}

// P5.6: the value follows all changes of elements, in any order, from the empty table and from any other.
func TestStreaming(t *testing.T) {
	for _, n := range []int{0, 1, 3, 7, most} {
		for _, table := range [][]api.Ext{make([]api.Ext, 1<<n), random(1<<n, 1)} {
			point, l := random(n, 2), changes(n)
			forward, backward := mle.Eval(table, point), mle.Eval(table, point)
			for j, c := range l {
				table[c.i] = ext.Add(table[c.i], c.delta)
				forward = mle.Accumulate(forward, c.i, c.delta, point)
				if n < most || j%29 == 0 {
					checkElement(t, "the value after some changes", forward, mle.Eval(table, point))
				}
			}
			slices.Reverse(l)
			for _, c := range l {
				backward = mle.Accumulate(backward, c.i, c.delta, point)
			}
			checkElement(t, "the value after all changes", forward, mle.Eval(table, point))
			checkElement(t, "the value after all changes in another order", backward, forward)
		}
	}
}

// P5.6: a value that starts with zero becomes that of a table whose elements are added one by one.
func TestStreamOfAllElements(t *testing.T) {
	for _, n := range []int{0, 1, 4, 10} {
		table, point := random(1<<n, 3), random(n, 4)
		value := zero
		for i, x := range table {
			value = mle.Accumulate(value, i, x, point)
		}
		checkElement(t, "the value after all elements", value, mle.Eval(table, point))
	}
}

// P5.7: the line has its ends at 0 and 1, and the restriction to it is a polynomial of degree at most n, which n + 1
// values determine.
func TestLines(t *testing.T) {
	for _, n := range []int{0, 1, 2, 3, 6, most} {
		ends := [][]api.Ext{random(n, 1), random(n, 2), vertex(1<<n-1, n), slices.Repeat([]api.Ext{{B: 5}}, n)}
		table := random(1<<n, 5)
		for j, a := range ends {
			b := ends[(j+1)%len(ends)]
			check(t, "the line at 0", mle.Line(a, b, zero), a)
			check(t, "the line at 1", mle.Line(a, b, one), b)
			at := func(x api.Ext) api.Ext { return mle.Eval(table, mle.Line(a, b, x)) }
			var values []api.Ext
			for x := range n + 4 {
				values = append(values, at(ext.FromInt(int64(x))))
			}
			if d := poly.Degree(poly.Interpolate(values)); d > n {
				t.Fatalf("the restriction of %d variables to a line has the degree %d", n, d)
			}
			for _, x := range elements()[3:] {
				checkElement(t, "the value on the line", at(x), poly.At(values[:n+1], x))
			}
		}
	}
}

// P5.8: the sum of the table is 2^n times the value at the point with all coordinates 1/2.
func TestSums(t *testing.T) {
	for n := range most + 1 {
		for _, table := range tables(n) {
			checkElement(t, "2^n times the value", ext.MulBase(mle.Eval(table, halves(n)), 1<<n), sum(table))
		}
	}
}

// P1: every call returns, also for elements that are not valid.
func TestCallsReturn(t *testing.T) {
	var bad []api.Ext
	for _, word := range []uint64{p, p + 1, 1<<64 - 2, 1<<64 - 1} {
		bad = append(bad, api.Ext{A: word}, api.Ext{B: word}, api.Ext{A: word, B: 5}, api.Ext{A: word, B: word})
	}
	for i, x := range bad {
		point := []api.Ext{x, one, bad[len(bad)-1-i], x}
		mle.Eval(bad, point)
		mle.Bind(bad, x)
		mle.Eq(point, random(4, 1))
		mle.EqTable(point)
		mle.Accumulate(x, i, x, point)
		mle.Line(point, random(4, 1), x)
		mle.Lift([]uint64{x.A, x.B})
		checkValid(t, bad[i:i+1], 0, false)
	}
}

// P2: the same arguments give the same results, whatever was called before or is called at the same time.
func TestResultsRepeat(t *testing.T) {
	wantElements, wantSlices := newElements(4), newSlices(4)
	newElements(2)
	newSlices(5)
	repeated := make([]bool, 8)
	var group sync.WaitGroup
	for i := range repeated {
		group.Go(func() {
			repeated[i] = slices.Equal(newElements(4), wantElements) &&
				slices.EqualFunc(newSlices(4), wantSlices, slices.Equal[[]api.Ext])
		})
	}
	group.Wait()
	if slices.Contains(repeated, false) {
		t.Fatal("a repeated call has another result")
	}
}

// behind returns a copy of l that has other elements behind its end, and the memory of both.
func behind(l []api.Ext) (argument []api.Ext, memory []api.Ext) {
	memory = append(slices.Clone(l), random(3, 61)...)
	return memory[:len(l)], memory
}

// P2: arguments and the memory behind them stay as they are, and a change of a result changes no argument.
func TestArgumentsStay(t *testing.T) {
	for n := range 6 {
		table, tableMemory := behind(random(1<<n, 1))
		point, pointMemory := behind(random(n, 2))
		other, otherMemory := behind(random(n, 3))
		copies := slices.Concat(tableMemory, pointMemory, otherMemory)
		mle.Valid(table)
		mle.Eval(table, point)
		mle.Eq(point, other)
		mle.EqIndex(1<<n-1, point)
		mle.Accumulate(one, 0, one, point)
		for _, l := range [][]api.Ext{mle.Bind(table, one), mle.EqTable(point), mle.Line(point, other, one)} {
			l = l[:cap(l)]
			for i := range l {
				l[i] = api.Ext{A: 77, B: 77}
			}
		}
		check(t, "the memory of the arguments", slices.Concat(tableMemory, pointMemory, otherMemory), copies)
	}
	words := []uint64{1, 2, p - 1, 4}
	mle.Lift(words)
	if !slices.Equal(words, []uint64{1, 2, p - 1, 4}) {
		t.Fatalf("the argument of Lift has become %v", words)
	}
}
