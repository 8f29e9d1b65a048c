package ntt_test

import (
	"math"
	"slices"
	"testing"

	"attestor/api"
	"attestor/field"
	"attestor/ntt"
)

const (
	p       = uint64(api.Prime)
	longest = 65536
)

// random returns n field elements without a pattern, always the same for the same seed.
func random(n int, seed uint64) []uint64 {
	x := seed
	l := make([]uint64, n)
	for i := range l {
		x = x*6364136223846793005 + 1442695040888963407
		l[i] = (x ^ x>>29) % p
	}
	return l
}

// power returns c X^i with n coefficients.
func power(c uint64, i int, n int) []uint64 {
	l := make([]uint64, n)
	l[i] = c
	return l
}

// padded returns l with zeros up to the length n.
func padded(l []uint64, n int) []uint64 { return append(slices.Clone(l), make([]uint64, n-len(l))...) }

// ofLength returns polynomials with n coefficients: zero, constants, single powers, and such with large coefficients and
// without a pattern.
func ofLength(n int) [][]uint64 {
	return [][]uint64{
		make([]uint64, n), power(1, 0, n), power(p-1, n-1, n), power(1<<32, n/2, n), slices.Repeat([]uint64{1}, n),
		slices.Repeat([]uint64{p - 1}, n), random(n, uint64(n)), random(n, uint64(n)+100),
	}
}

// small returns the lengths of transforms that are short enough for the definitions.
func small() []int { return []int{1, 2, 4, 8, 16, 32, 64, 128} }

// wrongLengths returns lengths that are no powers of two, or too large.
func wrongLengths() []int {
	return []int{0, 3, 5, 6, 7, 9, 10, 12, 15, 17, 24, 31, 33, 48, 96, 1000, 1023, 1025, 40960, 65535, 65537, 65538, 98304, 131072, 262144}
}

// root returns the primitive root of unity of order n, which is a power of two.
func root(n int) uint64 { return field.Pow(7, (p-1)/uint64(n)) }

// value is the value of l at x, by Horner's rule.
func value(l []uint64, x uint64) uint64 {
	sum := uint64(0)
	for i := len(l) - 1; i >= 0; i-- {
		sum = field.Add(field.Mul(sum, x), l[i])
	}
	return sum
}

// slowTransform is the transform of l padded to the length n by the definition: value i is the sum of all l[j] w^(i j).
func slowTransform(l []uint64, n int) []uint64 {
	out := make([]uint64, n)
	for i := range out {
		for j, c := range l {
			out[i] = field.Add(out[i], field.Mul(c, field.Pow(root(n), uint64(i*j))))
		}
	}
	return out
}

// slowMul is the product by its definition: coefficient k is the sum of all a[i] b[k-i].
func slowMul(a []uint64, b []uint64) []uint64 {
	if len(a) == 0 || len(b) == 0 {
		return nil
	}
	out := make([]uint64, len(a)+len(b)-1)
	for i, x := range a {
		for j, y := range b {
			out[i+j] = field.Add(out[i+j], field.Mul(x, y))
		}
	}
	return out
}

// check fails the test if a call has another result, or an error.
func check(t *testing.T, call string, got []uint64, err api.Errno, want []uint64) {
	t.Helper()
	if err != api.OK || !slices.Equal(got, want) {
		t.Fatalf("%s = %v and %d, want %v and OK", call, got, err, want)
	}
}

// checkError fails the test if a call has another error, or a result with it.
func checkError(t *testing.T, call string, got []uint64, err api.Errno, want api.Errno) {
	t.Helper()
	if err != want || len(got) != 0 {
		t.Fatalf("%s returns %d elements and error %d, want none and %d", call, len(got), err, want)
	}
}

// must returns the result of a call that has no error.
func must(t *testing.T, l []uint64, err api.Errno) []uint64 {
	t.Helper()
	if err != api.OK {
		t.Fatalf("error %d", err)
	}
	return l
}

// D1: the transform is that of the definition.
func TestForward(t *testing.T) {
	for _, n := range small() {
		for _, l := range ofLength(n) {
			got, err := ntt.Forward(l)
			check(t, "Forward", got, err, slowTransform(l, n))
		}
	}
}

// D1: transforms of all greater lengths, at some indices.
func TestLongForward(t *testing.T) {
	for n := 256; n <= longest; n *= 2 {
		l := random(n, uint64(n))
		got, err := ntt.Forward(l)
		if err != api.OK || len(got) != n {
			t.Fatalf("Forward of %d elements returns %d elements and error %d", n, len(got), err)
		}
		for _, i := range []int{0, 1, 2, 3, 5, n/2 - 1, n / 2, n/2 + 1, n / 3, n - 2, n - 1} {
			if want := value(l, field.Pow(root(n), uint64(i))); got[i] != want {
				t.Fatalf("Forward of %d elements has %d at the index %d, want %d", n, got[i], i, want)
			}
		}
	}
}

// D1: other lengths are invalid, among them that of the empty slice.
func TestForwardErrors(t *testing.T) {
	got, err := ntt.Forward(nil)
	checkError(t, "Forward(nil)", got, err, api.ErrArg)
	for _, n := range wrongLengths() {
		got, err := ntt.Forward(random(n, 1))
		checkError(t, "Forward", got, err, api.ErrArg)
	}
}

// D2: the polynomial has the given transform, by the definition.
func TestInverse(t *testing.T) {
	for _, n := range small() {
		for _, l := range ofLength(n) {
			got, err := ntt.Inverse(l)
			if err != api.OK || len(got) != n {
				t.Fatalf("Inverse(%v) = %v and %d", l, got, err)
			}
			check(t, "the transform of Inverse", slowTransform(got, n), err, l)
			got, err = ntt.Inverse(slowTransform(l, n))
			check(t, "Inverse", got, err, l)
		}
	}
}

// D2: the same lengths are invalid as for Forward.
func TestInverseErrors(t *testing.T) {
	got, err := ntt.Inverse(nil)
	checkError(t, "Inverse(nil)", got, err, api.ErrArg)
	for _, n := range wrongLengths() {
		got, err := ntt.Inverse(random(n, 1))
		checkError(t, "Inverse", got, err, api.ErrArg)
	}
}

// D3: the extension is the transform of the padded polynomial, by the definition.
func TestExtend(t *testing.T) {
	for _, n := range small() {
		for blowup := 1; blowup*n <= 128; blowup *= 2 {
			for _, l := range ofLength(n) {
				got, err := ntt.Extend(l, blowup)
				check(t, "Extend", got, err, slowTransform(l, blowup*n))
			}
		}
	}
}

// D3: the padded length may be 2^16, in all ways.
func TestLongExtend(t *testing.T) {
	for n := 1; n <= longest; n *= 2 {
		l := random(n, uint64(n))
		got, err := ntt.Extend(l, longest/n)
		want, _ := ntt.Forward(padded(l, longest))
		check(t, "Extend", got, err, want)
	}
}

// D3: a length or a blowup that is no power of two, negative numbers, and products that are too large or wrap around.
func TestExtendErrors(t *testing.T) {
	for _, n := range wrongLengths() {
		for _, blowup := range []int{1, 2, 4} {
			got, err := ntt.Extend(random(n, 1), blowup)
			checkError(t, "Extend", got, err, api.ErrArg)
		}
	}
	bad := []int{0, -1, -2, -4, 3, 5, 6, 7, 12, 65535, 65537, 131072, 1 << 48, 1 << 60, 1 << 61, 1 << 62, math.MaxInt, math.MinInt}
	for _, blowup := range append(bad, -longest, math.MinInt+1, math.MinInt/2, math.MaxInt/2+2) {
		for _, n := range []int{0, 1, 2, 3, 4, 8, longest} {
			got, err := ntt.Extend(random(n, 1), blowup)
			checkError(t, "Extend", got, err, api.ErrArg)
		}
	}
	for n := 2; n <= longest; n *= 2 {
		got, err := ntt.Extend(random(n, 1), longest/n*2)
		checkError(t, "Extend", got, err, api.ErrArg)
	}
}

// D4: products of all pairs of short lengths, and of very different lengths.
func TestMul(t *testing.T) {
	for n := 1; n <= 18; n++ {
		for m := 1; m <= 18; m++ {
			for i, l := range ofLength(n) {
				b := ofLength(m)[(i+n)%8]
				got, err := ntt.Mul(l, b)
				check(t, "Mul", got, err, slowMul(l, b))
			}
		}
	}
	for _, n := range [][2]int{{1, 1000}, {1, 1024}, {1000, 1}, {2, 1023}, {2, 1024}, {300, 7}, {255, 258}, {256, 257}, {257, 257}} {
		a, b := random(n[0], 1), random(n[1], 2)
		got, err := ntt.Mul(a, b)
		check(t, "Mul", got, err, slowMul(a, b))
	}
}

// D4: the number of coefficients depends on the lengths only, also if leading coefficients or all of them are zero.
func TestMulKeepsZeros(t *testing.T) {
	for _, c := range [][3][]uint64{
		{{0}, {0}, {0}},
		{{0}, {5, 6}, {0, 0}},
		{{0, 0}, {0, 0, 0}, {0, 0, 0, 0}},
		{{2, 0, 0}, {3, 0}, {6, 0, 0, 0}},
		{{0, 2}, {0, 0, 3, 0}, {0, 0, 0, 6, 0}},
		{{p - 1, 1}, {1, 1}, {p - 1, 0, 1}},
	} {
		got, err := ntt.Mul(c[0], c[1])
		check(t, "Mul", got, err, c[2])
	}
}

// D4: a product with an empty factor is empty, even if the other factor is longer than any product.
func TestMulOfEmpty(t *testing.T) {
	for _, empty := range [][]uint64{nil, {}} {
		for _, n := range []int{0, 1, 5, longest, longest + 1, 2*longest + 3} {
			l := random(n, 1)
			got, err := ntt.Mul(empty, l)
			checkError(t, "Mul with an empty factor", got, err, api.OK)
			got, err = ntt.Mul(l, empty)
			checkError(t, "Mul with an empty factor", got, err, api.OK)
		}
	}
}

// D4: the product may have 2^16 coefficients, and no more.
func TestMulLimit(t *testing.T) {
	x := uint64(1234567890123)
	for _, n := range []int{1, 2, 3, 100, 32767, 32768, 32769, 65534, 65535, 65536} {
		a, b := random(n, 1), random(longest+1-n, 2)
		got, err := ntt.Mul(a, b)
		if err != api.OK || len(got) != longest {
			t.Fatalf("Mul of %d and %d elements returns %d elements and error %d", n, len(b), len(got), err)
		}
		if value(got, x) != field.Mul(value(a, x), value(b, x)) || got[0] != field.Mul(a[0], b[0]) {
			t.Fatalf("Mul of %d and %d elements is wrong", n, len(b))
		}
		if got[longest-1] != field.Mul(a[n-1], b[longest-n]) {
			t.Fatalf("Mul of %d and %d elements has a wrong leading coefficient", n, len(b))
		}
		got, err = ntt.Mul(a, append(b, 0))
		checkError(t, "Mul", got, err, api.ErrBig)
		got, err = ntt.Mul(append(b, 1), a)
		checkError(t, "Mul", got, err, api.ErrBig)
	}
	for _, n := range [][2]int{{1, longest + 1}, {longest, longest}, {longest + 1, 1}, {2 * longest, 3}, {1, 4 * longest}} {
		got, err := ntt.Mul(random(n[0], 1), random(n[1], 2))
		checkError(t, "Mul", got, err, api.ErrBig)
	}
}

// The examples of the chapter, and the codeword of the fourth example of the document.
func TestExamples(t *testing.T) {
	got, err := ntt.Forward([]uint64{5, 7})
	check(t, "Forward(5, 7)", got, err, []uint64{12, p - 2})
	got, err = ntt.Inverse([]uint64{12, p - 2})
	check(t, "Inverse(12, p - 2)", got, err, []uint64{5, 7})
	got, err = ntt.Extend([]uint64{3}, 4)
	check(t, "Extend((3), 4)", got, err, []uint64{3, 3, 3, 3})
	got, err = ntt.Mul([]uint64{1, 2}, []uint64{3, 4, 5})
	check(t, "Mul((1, 2), (3, 4, 5))", got, err, []uint64{3, 10, 13, 10})
	w, _ := field.Root(2)
	got, err = ntt.Extend([]uint64{0, 1}, 2)
	check(t, "Extend((0, 1), 2)", got, err, []uint64{1, w, p - 1, field.Neg(w)})
}
