package ntt_test

import (
	"slices"
	"sync"
	"testing"

	"attestor/api"
	"attestor/field"
	"attestor/ntt"
)

// lengths returns all lengths of transforms.
func lengths() []int {
	var l []int
	for n := 1; n <= longest; n *= 2 {
		l = append(l, n)
	}
	return l
}

// points returns some elements at which polynomials are compared.
func points() []uint64 { return append([]uint64{0, 1, 2, 7, 1 << 32, p - 1, root(8)}, random(3, 5)...) }

// rotated returns l with every element at the next index, and the last one at the index 0.
func rotated(l []uint64) []uint64 { return slices.Concat(l[len(l)-1:], l[:len(l)-1]) }

// sum returns a + b, elementwise, for slices of any lengths.
func sum(a []uint64, b []uint64) []uint64 {
	out := padded(a, max(len(a), len(b)))
	for i, y := range b {
		out[i] = field.Add(out[i], y)
	}
	return out
}

// multiple returns c times l.
func multiple(c uint64, l []uint64) []uint64 {
	out := make([]uint64, len(l))
	for i, x := range l {
		out[i] = field.Mul(c, x)
	}
	return out
}

// factors returns polynomials of lengths that are powers of two and such that are not.
func factors() [][]uint64 {
	l := [][]uint64{nil, {0}, {1}, {p - 1}, {0, 0}, {0, 1}, {5, 7}, {1, 0, 0, 0}, {p - 1, p - 1, p - 1}}
	for _, n := range []int{1, 2, 3, 5, 8, 9, 31, 64, 100} {
		l = append(l, random(n, uint64(n)))
	}
	return l
}

// results calls every function with each of the lists, also where there is an error, and collects the results.
func results(lists [][]uint64) ([][]uint64, []api.Errno) {
	var out [][]uint64
	var errs []api.Errno
	add := func(l []uint64, err api.Errno) { out, errs = append(out, l), append(errs, err) }
	for i, l := range lists {
		add(ntt.Forward(l))
		add(ntt.Inverse(l))
		for _, blowup := range []int{-1, 0, 1, 2, 3, 4, longest} {
			add(ntt.Extend(l, blowup))
		}
		add(ntt.Mul(l, l))
		add(ntt.Mul(l, lists[len(lists)-1-i]))
	}
	return out, errs
}

// arguments returns slices of valid and of other lengths.
func arguments() [][]uint64 {
	l := append(factors(), random(4096, 1), random(40000, 2), random(longest, 3), random(longest+1, 4))
	for _, n := range small() {
		l = append(l, ofLength(n)...)
	}
	return l
}

// P4.1: all results are field elements.
func TestResultsAreElements(t *testing.T) {
	out, _ := results(arguments())
	for _, l := range out {
		for _, x := range l {
			if x >= p {
				t.Fatalf("a result has the element %d, which is no field element", x)
			}
		}
	}
}

// P4.2: each of Inverse and Forward undoes the other, for all lengths.
func TestInversion(t *testing.T) {
	for _, n := range lengths() {
		for _, l := range ofLength(n) {
			values, err := ntt.Forward(l)
			back, err2 := ntt.Inverse(must(t, values, err))
			check(t, "Inverse of Forward", back, err2, l)
			values, err = ntt.Inverse(l)
			back, err2 = ntt.Forward(must(t, values, err))
			check(t, "Forward of Inverse", back, err2, l)
		}
	}
}

// P4.3: sums and multiples go over to the transforms, and to the polynomials of transforms.
func TestLinearity(t *testing.T) {
	for _, n := range lengths() {
		a, b, c := random(n, 1), random(n, 2), p-5
		for _, f := range []func([]uint64) ([]uint64, api.Errno){ntt.Forward, ntt.Inverse} {
			first, err := f(a)
			second, err2 := f(b)
			must(t, first, err)
			must(t, second, err2)
			both, err := f(sum(a, multiple(c, b)))
			check(t, "the transform of a + c b", both, err, sum(first, multiple(c, second)))
		}
	}
}

// P4.3: a rotation of the coefficients multiplies value i by w^i.
func TestShifts(t *testing.T) {
	for _, n := range lengths() {
		l, power := random(n, uint64(n)), uint64(1)
		want, err := ntt.Forward(l)
		want = slices.Clone(must(t, want, err))
		for i := range want {
			want[i] = field.Mul(want[i], power)
			power = field.Mul(power, root(n))
		}
		got, err := ntt.Forward(rotated(l))
		check(t, "the transform of the rotated polynomial", got, err, want)
	}
}

// P4.4: the elements of the extension are values at the powers of the root of the padded length; those at multiples of
// the blowup are the transform; and the inverse transform is the padded polynomial.
func TestLowDegreeExtension(t *testing.T) {
	for _, n := range []int{1, 2, 8, 64, 1024} {
		for blowup := 1; blowup*n <= 4096; blowup *= 2 {
			l := random(n, uint64(n))
			extension, err := ntt.Extend(l, blowup)
			must(t, extension, err)
			transform, _ := ntt.Forward(l)
			for i, got := range extension {
				if i%97 < 3 && got != value(l, field.Pow(root(blowup*n), uint64(i))) {
					t.Fatalf("element %d of the extension of %d elements by %d is no value", i, n, blowup)
				}
				if i%blowup == 0 && got != transform[i/blowup] {
					t.Fatalf("element %d of the extension of %d elements by %d is not in the transform", i, n, blowup)
				}
			}
			back, err := ntt.Inverse(extension)
			check(t, "the inverse transform of the extension", back, err, padded(l, blowup*n))
		}
	}
}

// P4.5: the values of a product are the products of the values of the factors.
func TestValuesOfProducts(t *testing.T) {
	for _, a := range append(factors(), random(5000, 1)) {
		for _, b := range append(factors(), random(6000, 2)) {
			product, err := ntt.Mul(a, b)
			must(t, product, err)
			for _, x := range points() {
				if value(product, x) != field.Mul(value(a, x), value(b, x)) {
					t.Fatalf("the product of %v and %v has the value %d at %d", a, b, value(product, x), x)
				}
			}
		}
	}
}

// P4.5: the commutative law, the associative law, and the distributive law.
func TestLawsOfProducts(t *testing.T) {
	mul := func(a []uint64, b []uint64) []uint64 {
		l, err := ntt.Mul(a, b)
		return must(t, l, err)
	}
	for _, a := range factors() {
		for _, b := range factors() {
			check(t, "a b", mul(a, b), api.OK, mul(b, a))
			for _, c := range factors() {
				check(t, "(a b) c", mul(mul(a, b), c), api.OK, mul(a, mul(b, c)))
				check(t, "a (b + c)", mul(a, sum(b, c)), api.OK, sum(mul(a, b), mul(a, c)))
			}
		}
	}
}

// P1: every call returns, also for words that are no field elements, and there is no result with an error.
func TestCallsReturn(t *testing.T) {
	l := arguments()
	for _, n := range []int{1, 2, 3, 4, 8, 15, 16, 1024} {
		l = append(l, slices.Repeat([]uint64{1<<64 - 1}, n), slices.Repeat([]uint64{p}, n))
	}
	out, errs := results(l)
	for i, err := range errs {
		if err != api.OK {
			checkError(t, "a call", out[i], err, err)
		}
	}
}

// P2: the same arguments give the same results, whatever was called before or is called at the same time.
func TestResultsRepeat(t *testing.T) {
	l := arguments()
	want, wantErrs := results(l)
	back := slices.Clone(l)
	slices.Reverse(back)
	results(back)
	repeated := make([]bool, 8)
	var group sync.WaitGroup
	for i := range repeated {
		group.Go(func() {
			got, errs := results(l)
			repeated[i] = slices.EqualFunc(got, want, slices.Equal[[]uint64]) && slices.Equal(errs, wantErrs)
		})
	}
	group.Wait()
	if slices.Contains(repeated, false) {
		t.Fatal("a repeated call has another result")
	}
}

// P2: arguments and the memory behind them stay as they are, and a change of a result changes no argument.
func TestArgumentsStay(t *testing.T) {
	var l, copies [][]uint64
	for _, a := range arguments() {
		behind := append(slices.Clone(a), random(3, 61)...)
		l, copies = append(l, behind[:len(a)]), append(copies, slices.Clone(behind))
	}
	out, _ := results(l)
	for _, r := range out {
		r = r[:cap(r)]
		for i := range r {
			r[i] = 77
		}
	}
	for i, a := range l {
		if !slices.Equal(a[:len(a)+3], copies[i]) {
			t.Fatalf("the argument %v has become %v", copies[i], a)
		}
	}
}
