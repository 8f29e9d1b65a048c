package reedsolomon_test

import (
	"math"
	"slices"
	"sync"
	"testing"

	"attestor/api"
	"attestor/ext"
	"attestor/field"
	"attestor/reedsolomon"
)

// sum returns a + b, elementwise.
func sum(a []uint64, b []uint64) []uint64 {
	out := make([]uint64, len(a))
	for i, x := range a {
		out[i] = field.Add(x, b[i])
	}
	return out
}

// multiple returns c times l.
func multiple(c uint64, l []uint64) []uint64 {
	out := make([]uint64, len(l))
	for i, x := range l {
		out[i] = field.Mul(c, x)
	}
	return out
}

// vanishing returns a row of k elements whose codeword has as many zeros as possible: k - 1, without a pattern.
func vanishing(k int, blowup int) []uint64 {
	row := power(1, 0, k)
	for _, i := range shuffled(blowup*k, uint64(blowup))[:k-1] {
		x := field.Pow(root(blowup*k), uint64(i))
		for j := k - 1; j > 0; j-- {
			row[j] = field.Sub(row[j-1], field.Mul(x, row[j]))
		}
		row[0] = field.Neg(field.Mul(x, row[0]))
	}
	return row
}

// lengths returns the lengths of rows with this blowup, as far as all pairs of rows can be compared.
func lengths(blowup int) []int {
	l := []int{1, 2, 4, 8, 32, 256}
	return append(l, longest/blowup)
}

// P9.1: all symbols and all elements of rows are field elements.
func TestResultsAreElements(t *testing.T) {
	for _, r := range results(words()) {
		for _, x := range slices.Concat(r.word, r.row, []uint64{r.at.A, r.at.B}) {
			if x >= p {
				t.Fatalf("a result has the element %d, which is no field element", x)
			}
		}
		for _, x := range r.ext {
			if !ext.Valid(x) {
				t.Fatalf("a result has the element %v, which is not valid", x)
			}
		}
	}
}

// P9.2: sums and multiples of rows go over to the codewords.
func TestLinearity(t *testing.T) {
	for _, blowup := range blowups() {
		for _, k := range lengths(blowup) {
			l := rows(k)
			for i, a := range l {
				b := l[(i+1)%len(l)]
				for _, c := range []uint64{0, 1, 7, p - 1, 1 << 32} {
					got, err := reedsolomon.Encode(sum(a, multiple(c, b)), blowup)
					check(t, "the codeword of a + c b", got, err, sum(encode(t, a, blowup), multiple(c, encode(t, b, blowup))))
				}
			}
		}
	}
}

// P9.2: the same holds for elements of the extension field, also if the coefficient is one of them.
func TestLinearityOfExt(t *testing.T) {
	for _, blowup := range blowups() {
		for _, k := range []int{1, 2, 8, 64} {
			for seed := range uint64(4) {
				a, b, c := randomExt(k, seed), randomExt(k, seed+10), randomExt(1, seed)[0]
				combination := func(a []api.Ext, b []api.Ext) []api.Ext {
					out := make([]api.Ext, len(a))
					for i, x := range a {
						out[i] = ext.Add(x, ext.Mul(c, b[i]))
					}
					return out
				}
				first, _ := reedsolomon.EncodeExt(a, blowup)
				second, _ := reedsolomon.EncodeExt(b, blowup)
				got, err := reedsolomon.EncodeExt(combination(a, b), blowup)
				if err != api.OK || !slices.Equal(got, combination(first, second)) {
					t.Fatalf("blowup %d, %d elements: the codeword of a + c b is no combination, %v", blowup, k, err)
				}
			}
		}
	}
}

// P9.2: a row with no component B has the codeword of its components A.
func TestBaseField(t *testing.T) {
	for _, blowup := range blowups() {
		for _, k := range lengths(blowup) {
			row := random(k, uint64(k))
			word := encode(t, row, blowup)
			got, err := reedsolomon.EncodeExt(join(row, make([]uint64, k)), blowup)
			if err != api.OK || !slices.Equal(got, join(word, make([]uint64, blowup*k))) {
				t.Fatalf("blowup %d, %d elements: EncodeExt differs from Encode, %v", blowup, k, err)
			}
		}
	}
}

// P9.3: different rows have codewords with at least the minimum distance, and some have no greater one.
func TestMinimumDistance(t *testing.T) {
	for _, blowup := range blowups() {
		for _, k := range []int{1, 2, 4, 8, 64, 512} {
			least := reedsolomon.MinDistance(k, blowup)
			l := append(rows(k), vanishing(k, blowup), sum(random(k, uint64(k)), vanishing(k, blowup)))
			for i, a := range l {
				for _, b := range l[:i] {
					d := reedsolomon.Distance(encode(t, a, blowup), encode(t, b, blowup))
					if same := slices.Equal(a, b); !same && d < least || same && d != 0 {
						t.Errorf("blowup %d: the codewords of %v and %v have the distance %d", blowup, a, b, d)
					}
				}
			}
			zero := make([]uint64, blowup*k)
			if d := reedsolomon.Distance(encode(t, vanishing(k, blowup), blowup), zero); d != least {
				t.Errorf("blowup %d, %d elements: the distance to zero is %d, want %d", blowup, k, d, least)
			}
		}
	}
}

// words returns codewords and other words of all small lengths, some of which are too long for some blowups.
func words() [][]uint64 {
	var l [][]uint64
	for n := 1; n <= 64; n *= 2 {
		l = append(l, make([]uint64, n), slices.Repeat([]uint64{p - 1}, n), power(1, n-1, n), power(p-1, n/2, n), random(n, uint64(n)))
		for k := 1; k <= n; k *= 2 {
			word := values(random(k, uint64(n+k)), n)
			l = append(l, word, damaged(word, []int{n / 3}, damages()[0]), damaged(word, []int{0, n - 1}, damages()[1]))
		}
	}
	return append(l, nil, random(3, 1), random(24, 2), random(1024, 3), values(random(128, 4), 1024))
}

// P9.4: what Decode returns is near the word, and its number of errors is the distance.
func TestDecodedIsNear(t *testing.T) {
	for _, blowup := range blowups() {
		for _, word := range words() {
			row, n, err := reedsolomon.Decode(word, blowup)
			if err != api.OK {
				continue
			}
			if len(row) != len(word)/blowup {
				t.Fatalf("blowup %d: %v is decoded to %v", blowup, word, row)
			}
			d := reedsolomon.Distance(encode(t, row, blowup), word)
			if d != n || d > (reedsolomon.MinDistance(len(row), blowup)-1)/2 {
				t.Errorf("blowup %d: %v is decoded to %v with %d errors, the distance is %d", blowup, word, row, n, d)
			}
		}
	}
}

// P9.5: Is reports true for the codewords of the rows that Decode returns, and for the words in which Decode finds no
// error, and for no other word.
func TestRecognition(t *testing.T) {
	for _, blowup := range blowups() {
		for _, word := range words() {
			is, err := reedsolomon.Is(word, blowup)
			row, n, err2 := reedsolomon.Decode(word, blowup)
			if (err == api.ErrArg) != (err2 == api.ErrArg) || is != (err2 == api.OK && n == 0) {
				t.Fatalf("blowup %d, %v: Is is %v, %v, Decode finds %d errors, %v", blowup, word, is, err, n, err2)
			}
			if is {
				check(t, "the codeword of the decoded word", encode(t, row, blowup), err, word)
			} else if err2 == api.OK {
				checkIs(t, encode(t, row, blowup), blowup, true)
			}
		}
	}
}

// result is what all functions return for a word or a row, and a blowup.
type result struct {
	word, row []uint64
	ext       []api.Ext
	at        api.Ext
	is        bool
	n         [3]int
	err       [5]api.Errno
}

// resultOf calls all functions.
func resultOf(l []uint64, blowup int) result {
	var r result
	r.word, r.err[0] = reedsolomon.Encode(l, blowup)
	r.ext, r.err[1] = reedsolomon.EncodeExt(join(l, l), blowup)
	r.at, r.err[2] = reedsolomon.At(join(l, l), blowup, len(l)/2)
	r.is, r.err[3] = reedsolomon.Is(l, blowup)
	r.row, r.n[0], r.err[4] = reedsolomon.Decode(l, blowup)
	r.n[1], r.n[2] = reedsolomon.Distance(l, r.word), reedsolomon.MinDistance(len(l), blowup)
	return r
}

// equal reports whether two results are equal.
func (r result) equal(s result) bool {
	return slices.Equal(r.word, s.word) && slices.Equal(r.row, s.row) && slices.Equal(r.ext, s.ext) &&
		r.at == s.at && r.is == s.is && r.n == s.n && r.err == s.err
}

// results calls all functions with each of the lists and all blowups.
func results(lists [][]uint64) []result {
	var out []result
	for _, l := range lists {
		for _, blowup := range blowups() {
			out = append(out, resultOf(l, blowup))
		}
	}
	return out
}

// P1: every call returns, also for words that are no field elements, and there is no result with an error.
func TestCallsReturn(t *testing.T) {
	lists := words()
	for _, n := range []int{1, 2, 3, 4, 8, 15, 16, 64, 1024} {
		mixed := random(n, 7)
		for i := range mixed {
			mixed[i] += uint64(i % 3 * (1<<32 - 1))
		}
		lists = append(lists, slices.Repeat([]uint64{math.MaxUint64}, n), slices.Repeat([]uint64{p}, n), power(p, n-1, n), mixed)
	}
	for _, l := range lists {
		for _, blowup := range append(blowups(), wrongBlowups()...) {
			r := resultOf(l, blowup)
			if r.err[0] != api.OK && len(r.word) != 0 || r.err[1] != api.OK && len(r.ext) != 0 ||
				r.err[2] != api.OK && r.at != (api.Ext{}) || r.err[3] != api.OK && r.is ||
				r.err[4] != api.OK && (len(r.row) != 0 || r.n[0] != 0) {
				t.Errorf("blowup %d, %v: %v", blowup, l, r)
			}
			for _, i := range []int{math.MinInt, -1, 0, 1, len(l), math.MaxInt} {
				if x, err := reedsolomon.At(join(l, l), blowup, i); err != api.OK && x != (api.Ext{}) {
					t.Errorf("blowup %d, %v: symbol %d is %v, %v", blowup, l, i, x, err)
				}
			}
		}
	}
	for _, cols := range []int{math.MinInt, -1, 0, 3, math.MaxInt} {
		for _, blowup := range wrongBlowups() {
			reedsolomon.MinDistance(cols, blowup)
		}
	}
}

// P2: the same arguments give the same results, whatever was called before or is called at the same time.
func TestResultsRepeat(t *testing.T) {
	l := words()
	want := results(l)
	back := slices.Clone(l)
	slices.Reverse(back)
	results(back)
	repeated := make([]bool, 8)
	var group sync.WaitGroup
	for i := range repeated {
		group.Go(func() { repeated[i] = slices.EqualFunc(results(l), want, result.equal) })
	}
	group.Wait()
	if slices.Contains(repeated, false) {
		t.Fatal("a repeated call has another result")
	}
}

// P2: arguments and the memory behind them stay as they are, and a change of a result changes no argument.
func TestArgumentsStay(t *testing.T) {
	for _, l := range words() {
		n := len(l)
		memory := append(slices.Clone(l), random(n+3, 61)...)
		wide := join(memory, memory)
		want, wantWide := slices.Clone(memory), slices.Clone(wide)
		for _, blowup := range blowups() {
			r := resultOf(memory[:n], blowup)
			codeword, _ := reedsolomon.EncodeExt(wide[:n], blowup)
			reedsolomon.At(wide[:n], blowup, 0)
			for _, x := range [][]uint64{r.word, r.row} {
				clear(x[:cap(x)])
			}
			clear(codeword[:cap(codeword)])
			if !slices.Equal(memory, want) || !slices.Equal(wide, wantWide) {
				t.Fatalf("blowup %d: an argument of %d elements was modified", blowup, n)
			}
		}
	}
}
