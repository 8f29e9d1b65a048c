package reedsolomon_test

import (
	"math"
	"slices"
	"testing"

	"attestor/api"
	"attestor/field"
	"attestor/reedsolomon"
)

const (
	p       = uint64(api.Prime)
	longest = 65536
)

// blowups returns all blowups.
func blowups() []int { return []int{2, 4, 8, 16} }

// wrongBlowups returns numbers that are no blowups.
func wrongBlowups() []int {
	return []int{math.MinInt, -longest, -16, -8, -4, -2, -1, 0, 1, 3, 5, 6, 7, 9, 10, 12, 14, 15, 17, 24, 32, 64, longest, 1 << 62, math.MaxInt}
}

// wrongLengths returns lengths of at most 65536 that are no powers of two.
func wrongLengths() []int {
	return []int{0, 3, 5, 6, 7, 9, 10, 12, 14, 15, 17, 24, 30, 31, 33, 48, 96, 1000, 1023, 1025, 4095, 4097, 6144, 40960, 65535}
}

// sequence returns a function that returns words without a pattern, always the same ones for the same seed.
func sequence(seed uint64) func() uint64 {
	x := seed
	return func() uint64 {
		x = x*6364136223846793005 + 1442695040888963407
		return x ^ x>>29
	}
}

// random returns n field elements without a pattern.
func random(n int, seed uint64) []uint64 {
	next := sequence(seed)
	l := make([]uint64, n)
	for i := range l {
		l[i] = next() % p
	}
	return l
}

// randomExt returns n elements of the extension field without a pattern.
func randomExt(n int, seed uint64) []api.Ext {
	return join(random(n, seed), random(n, seed+1000))
}

// join returns the elements with these components.
func join(a []uint64, b []uint64) []api.Ext {
	l := make([]api.Ext, len(a))
	for i := range l {
		l[i] = api.Ext{A: a[i], B: b[i]}
	}
	return l
}

// power returns c X^i with n coefficients.
func power(c uint64, i int, n int) []uint64 {
	l := make([]uint64, n)
	l[i] = c
	return l
}

// rows returns rows with k elements: zero, constants, single powers, large coefficients, and such without a pattern.
func rows(k int) [][]uint64 {
	return [][]uint64{
		make([]uint64, k), power(1, 0, k), power(5, k-1, k), power(p-1, k/2, k), slices.Repeat([]uint64{1}, k),
		slices.Repeat([]uint64{p - 1}, k), random(k, uint64(k)), random(k, uint64(k)+100),
	}
}

// root returns the primitive root of unity of order n, which is a power of two.
func root(n int) uint64 { return field.Pow(7, (p-1)/uint64(n)) }

// value is the value of a polynomial at x, by Horner's rule.
func value(l []uint64, x uint64) uint64 {
	sum := uint64(0)
	for i := len(l) - 1; i >= 0; i-- {
		sum = field.Add(field.Mul(sum, x), l[i])
	}
	return sum
}

// values returns the n values of a polynomial at the powers of the root of order n.
func values(l []uint64, n int) []uint64 {
	out := make([]uint64, n)
	for i := range out {
		out[i] = value(l, field.Pow(root(n), uint64(i)))
	}
	return out
}

// encode returns the codeword of a row that has one.
func encode(t *testing.T, row []uint64, blowup int) []uint64 {
	t.Helper()
	word, err := reedsolomon.Encode(row, blowup)
	if err != api.OK || len(word) != blowup*len(row) {
		t.Fatalf("Encode of %d elements with blowup %d returns %d elements, %v", len(row), blowup, len(word), err)
	}
	return word
}

// radius returns how many errors can be corrected in words of length n.
func radius(n int, blowup int) int { return (n - n/blowup) / 2 }

// check fails the test if a call has another result, or an error.
func check(t *testing.T, call string, got []uint64, err api.Errno, want []uint64) {
	t.Helper()
	if err != api.OK || !slices.Equal(got, want) {
		t.Fatalf("%s = %v, %v, want %v", call, got, err, want)
	}
}

// checkDecode fails the test if the word is not decoded to the row with this number of errors.
func checkDecode(t *testing.T, word []uint64, blowup int, row []uint64, errors int) {
	t.Helper()
	got, n, err := reedsolomon.Decode(word, blowup)
	if err != api.OK || n != errors || !slices.Equal(got, row) {
		t.Fatalf("blowup %d: %d symbols with %d errors are decoded to %d elements with %d errors, %v", blowup, len(word), errors, len(got), n, err)
	}
}

// checkNone fails the test if Decode finds a row.
func checkNone(t *testing.T, word []uint64, blowup int, want api.Errno) {
	t.Helper()
	if row, n, err := reedsolomon.Decode(word, blowup); len(row) != 0 || n != 0 || err != want {
		t.Fatalf("Decode of %d symbols with blowup %d = %d elements, %d, %v, want %v", len(word), blowup, len(row), n, err, want)
	}
}

// I1: the symbols are the values at the powers of the root.
func TestEncode(t *testing.T) {
	for _, blowup := range blowups() {
		for k := 1; k <= 32; k *= 2 {
			for _, row := range rows(k) {
				got, err := reedsolomon.Encode(row, blowup)
				check(t, "Encode", got, err, values(row, blowup*k))
			}
		}
	}
}

// I1: codewords of all greater lengths, at some indices.
func TestLongEncode(t *testing.T) {
	for _, blowup := range blowups() {
		for k := 64; blowup*k <= longest; k *= 2 {
			row, n := random(k, uint64(k)), blowup*k
			word := encode(t, row, blowup)
			for _, i := range []int{0, 1, 2, blowup, k, n / 3, n/2 - 1, n / 2, n - 1} {
				if want := value(row, field.Pow(root(n), uint64(i))); word[i] != want {
					t.Fatalf("symbol %d of %d is %d, want %d", i, n, word[i], want)
				}
			}
		}
	}
}

// I1: the components of the codeword are the codewords of the components.
func TestEncodeExt(t *testing.T) {
	for _, blowup := range blowups() {
		for k := 1; k <= 32; k *= 2 {
			for i, a := range rows(k) {
				b := rows(k)[(i+3)%8]
				got, err := reedsolomon.EncodeExt(join(a, b), blowup)
				if want := join(values(a, blowup*k), values(b, blowup*k)); err != api.OK || !slices.Equal(got, want) {
					t.Fatalf("EncodeExt(%v, %v) = %v, %v", a, b, got, err)
				}
			}
		}
		a, b := random(longest/blowup, 1), random(longest/blowup, 2)
		got, err := reedsolomon.EncodeExt(join(a, b), blowup)
		if err != api.OK || !slices.Equal(got, join(encode(t, a, blowup), encode(t, b, blowup))) {
			t.Fatalf("EncodeExt with blowup %d of %d elements: %v", blowup, longest/blowup, err)
		}
	}
}

// checkWrongRow fails the test if a row of this length is not refused.
func checkWrongRow(t *testing.T, k int, blowup int) {
	t.Helper()
	if word, err := reedsolomon.Encode(make([]uint64, k), blowup); len(word) != 0 || err != api.ErrArg {
		t.Fatalf("Encode of %d elements with blowup %d: %d symbols, %v", k, blowup, len(word), err)
	}
	row := randomExt(k, 1)
	if word, err := reedsolomon.EncodeExt(row, blowup); len(word) != 0 || err != api.ErrArg {
		t.Fatalf("EncodeExt of %d elements with blowup %d: %d symbols, %v", k, blowup, len(word), err)
	}
	for _, i := range []int{-1, 0, 1, k} {
		if x, err := reedsolomon.At(row, blowup, i); x != (api.Ext{}) || err != api.ErrArg {
			t.Fatalf("At of %d elements with blowup %d: %v, %v", k, blowup, x, err)
		}
	}
}

// I1, I2: other blowups, lengths that are no powers of two, and codewords that would be too long are refused.
func TestRowErrors(t *testing.T) {
	for _, blowup := range wrongBlowups() {
		for _, k := range []int{0, 1, 2, 3, 4, 16, 4096, 32768, longest} {
			checkWrongRow(t, k, blowup)
		}
	}
	for _, blowup := range blowups() {
		for _, k := range wrongLengths() {
			checkWrongRow(t, k, blowup)
		}
		for _, k := range []int{longest/blowup + 1, 2 * longest / blowup, longest, longest + 1, 2 * longest} {
			checkWrongRow(t, k, blowup)
		}
	}
}

// I2: At returns the symbols of the codeword one by one.
func TestAt(t *testing.T) {
	for _, blowup := range blowups() {
		for _, k := range []int{1, 2, 4, 8, 64, 256, 1024, longest / blowup} {
			row := randomExt(k, uint64(k))
			word, err := reedsolomon.EncodeExt(row, blowup)
			if err != api.OK {
				t.Fatalf("EncodeExt: %v", err)
			}
			step := max(1, blowup*k/256)
			for i := 0; i < len(word); i += step {
				for _, j := range []int{i, len(word) - 1 - i} {
					if got, err := reedsolomon.At(row, blowup, j); got != word[j] || err != api.OK {
						t.Fatalf("symbol %d of %d is %v, %v, want %v", j, len(word), got, err, word[j])
					}
				}
			}
		}
	}
}

// I2: the index must be one of the codeword.
func TestAtErrors(t *testing.T) {
	for _, blowup := range blowups() {
		for _, k := range []int{1, 2, 16, longest / blowup} {
			n := blowup * k
			for _, i := range []int{-1, -n, n, n + 1, 2 * n, longest, math.MinInt, math.MaxInt} {
				if x, err := reedsolomon.At(randomExt(k, 1), blowup, i); x != (api.Ext{}) || err != api.ErrArg {
					t.Errorf("symbol %d of %d is %v, %v", i, n, x, err)
				}
			}
		}
	}
}

// checkIs fails the test if Is reports something else.
func checkIs(t *testing.T, word []uint64, blowup int, want bool) {
	t.Helper()
	if got, err := reedsolomon.Is(word, blowup); got != want || err != api.OK {
		t.Fatalf("Is of %d symbols with blowup %d: %v, %v", len(word), blowup, got, err)
	}
}

// I3: codewords are recognized, and no longer if one of their symbols has another value.
func TestIs(t *testing.T) {
	for _, blowup := range blowups() {
		for k := 1; k <= 16; k *= 2 {
			for _, row := range rows(k) {
				word := encode(t, row, blowup)
				checkIs(t, word, blowup, true)
				for i, x := range word {
					for _, other := range []uint64{field.Add(x, 1), field.Sub(x, 1), field.Add(x, 1<<32)} {
						word[i] = other
						checkIs(t, word, blowup, false)
					}
					word[i] = x
				}
			}
		}
	}
}

// I3: the degree of the polynomial must be less than the length of a row.
func TestIsByDegree(t *testing.T) {
	for _, blowup := range blowups() {
		for _, k := range []int{1, 2, 4, 16} {
			for i := range blowup * k {
				checkIs(t, values(power(3, i, i+1), blowup*k), blowup, i < k)
				checkIs(t, values(random(i+1, uint64(i)), blowup*k), blowup, i < k)
			}
		}
		checkIs(t, random(longest, 1), blowup, false)
		word := encode(t, random(longest/blowup, 2), blowup)
		checkIs(t, word, blowup, true)
		word[longest-1] = field.Add(word[longest-1], 1)
		checkIs(t, word, blowup, false)
	}
	// With a smaller blowup the rows are longer, so that there are more codewords.
	word := encode(t, random(8, 3), 8)
	for blowup, want := range map[int]bool{2: true, 4: true, 8: true, 16: false} {
		checkIs(t, word, blowup, want)
	}
}

// I3, I5: other blowups are refused, and lengths that are no powers of two between the blowup and 65536.
func TestWordErrors(t *testing.T) {
	refuse := func(n int, blowup int) {
		t.Helper()
		word := make([]uint64, n)
		if is, err := reedsolomon.Is(word, blowup); is || err != api.ErrArg {
			t.Fatalf("Is of %d symbols with blowup %d: %v, %v", n, blowup, is, err)
		}
		checkNone(t, word, blowup, api.ErrArg)
	}
	for _, blowup := range wrongBlowups() {
		for _, n := range []int{0, 1, 2, 3, 4, 16, 24, 32, 64, 4096, longest, longest + 1, 2 * longest} {
			refuse(n, blowup)
		}
	}
	for _, blowup := range blowups() {
		for _, n := range append(wrongLengths(), longest+1, longest+blowup, 2*longest, 4*longest) {
			refuse(n, blowup)
		}
		for n := 1; n < blowup; n++ {
			refuse(n, blowup)
		}
		checkIs(t, make([]uint64, blowup), blowup, true)
		checkDecode(t, make([]uint64, blowup), blowup, []uint64{0}, 0)
	}
}

// I4: symbols are compared index by index, and all those count that only one of the words has.
func TestDistance(t *testing.T) {
	for _, c := range []struct {
		a, b []uint64
		want int
	}{
		{nil, nil, 0}, {nil, []uint64{}, 0}, {nil, []uint64{0}, 1}, {nil, []uint64{0, 0, 5}, 3},
		{[]uint64{7}, []uint64{7}, 0}, {[]uint64{7}, []uint64{8}, 1}, {[]uint64{0}, []uint64{1 << 32}, 1},
		{[]uint64{1, 2, 3}, []uint64{1, 2, 3}, 0}, {[]uint64{1, 2, 3}, []uint64{3, 2, 1}, 2}, {[]uint64{1, 2, 3}, []uint64{2, 3, 1}, 3},
		{[]uint64{1, 2, 3}, []uint64{1, 2}, 1}, {[]uint64{1, 2, 3}, []uint64{2, 3}, 3}, {[]uint64{1, 2, 3}, []uint64{1, 5, 3, 0, 0}, 3},
		{[]uint64{0, 0}, []uint64{0, 0, 0}, 1}, {[]uint64{p - 1, 0}, []uint64{p - 1, p - 1}, 1},
	} {
		if got := reedsolomon.Distance(c.a, c.b); got != c.want {
			t.Errorf("Distance(%v, %v) = %d, want %d", c.a, c.b, got, c.want)
		}
		if got := reedsolomon.Distance(c.b, c.a); got != c.want {
			t.Errorf("Distance(%v, %v) = %d, want %d", c.b, c.a, got, c.want)
		}
	}
	a := random(longest, 1)
	b := slices.Clone(a)
	for i := 0; i < longest; i += 3 {
		b[i] = field.Add(b[i], 1)
	}
	if got := reedsolomon.Distance(a, b); got != longest/3+1 {
		t.Errorf("Distance of long words = %d", got)
	}
}

// I4: the minimum distance, for all rows and blowups.
func TestMinDistance(t *testing.T) {
	for _, blowup := range blowups() {
		for k := 1; blowup*k <= longest; k *= 2 {
			if got, want := reedsolomon.MinDistance(k, blowup), blowup*k-(k-1); got != want {
				t.Errorf("MinDistance(%d, %d) = %d, want %d", k, blowup, got, want)
			}
		}
	}
	for _, c := range [][3]int{{1, 2, 2}, {2, 2, 3}, {1, 16, 16}, {4, 4, 13}, {32768, 2, 32769}, {4096, 16, 61441}} {
		if got := reedsolomon.MinDistance(c[0], c[1]); got != c[2] {
			t.Errorf("MinDistance(%d, %d) = %d, want %d", c[0], c[1], got, c[2])
		}
	}
}

// The examples of the chapter, which are also the fourth example of the document.
func TestExamples(t *testing.T) {
	got, err := reedsolomon.Encode([]uint64{5}, 4)
	check(t, "Encode((5), 4)", got, err, []uint64{5, 5, 5, 5})
	w, _ := field.Root(2)
	got, err = reedsolomon.Encode([]uint64{0, 1}, 2)
	check(t, "Encode((0, 1), 2)", got, err, []uint64{1, w, p - 1, p - w})
	if got := reedsolomon.MinDistance(4, 4); got != 13 {
		t.Errorf("MinDistance(4, 4) = %d", got)
	}
	checkDecode(t, []uint64{5, 5, 7, 5}, 4, []uint64{5}, 1)
}
