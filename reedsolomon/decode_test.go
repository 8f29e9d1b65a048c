package reedsolomon_test

import (
	"slices"
	"testing"

	"attestor/api"
	"attestor/field"
	"attestor/reedsolomon"
)

// places returns several lists of e different indices below n: the first and the last ones, such with equal distances as
// far as that is possible, and indices without a pattern.
func places(n int, e int) [][]int {
	first, last, spaced := make([]int, e), make([]int, e), make([]int, e)
	step := 1
	for 2*step*max(e, 1) <= n {
		step *= 2
	}
	for i := range e {
		first[i], last[i], spaced[i] = i, n-1-i, i*step
	}
	return [][]int{first, last, spaced, shuffled(n, uint64(n+e))[:e]}
}

// shuffled returns the numbers 0 to n - 1 in an order without a pattern.
func shuffled(n int, seed uint64) []int {
	next := sequence(seed)
	l := make([]int, n)
	for i := range l {
		j := int(next() >> 11 % uint64(i+1))
		l[i] = l[j]
		l[j] = i
	}
	return l
}

// damages returns ways to change a symbol: all of them by the same difference, by differences without a pattern, and such
// that symbols become 0, or 1 if they are 0.
func damages() []func(x uint64) uint64 {
	next := sequence(9)
	return []func(uint64) uint64{
		func(x uint64) uint64 { return field.Add(x, 1) },
		func(x uint64) uint64 { return field.Add(x, 1+next()%(p-1)) },
		func(x uint64) uint64 {
			if x == 0 {
				return 1
			}
			return 0
		},
	}
}

// damaged returns the word with changed symbols at these places.
func damaged(word []uint64, places []int, change func(uint64) uint64) []uint64 {
	word = slices.Clone(word)
	for _, i := range places {
		word[i] = change(word[i])
	}
	return word
}

// inverse returns the inverse of a field element other than 0.
func inverse(a uint64) uint64 {
	x, _ := field.Inv(a)
	return x
}

// through returns the polynomial of degree less than len(x) that has the values y at the different points x, by Newton's
// method.
func through(x []uint64, y []uint64) []uint64 {
	sum, product := make([]uint64, len(x)), power(1, 0, len(x)+1)
	for i := range x {
		c := field.Mul(field.Sub(y[i], value(sum, x[i])), inverse(value(product, x[i])))
		for j := range sum {
			sum[j] = field.Add(sum[j], field.Mul(c, product[j]))
		}
		for j := len(x); j >= 0; j-- {
			below := uint64(0)
			if j > 0 {
				below = product[j-1]
			}
			product[j] = field.Sub(below, field.Mul(x[i], product[j]))
		}
	}
	return sum
}

// subsets calls use with all increasing lists of k numbers below n, until it returns false.
func subsets(n int, k int, use func([]int) bool) bool {
	if k == 0 {
		return use(nil)
	}
	for last := k - 1; last < n; last++ {
		if !subsets(last, k-1, func(l []int) bool { return use(append(l, last)) }) {
			return false
		}
	}
	return true
}

// search returns the row of length k whose codeword differs from the word in at most half the minimum distance, and the
// number of differences, or nil: it tries all rows that agree with the word at k indices, of which the row must be one.
func search(word []uint64, k int) ([]uint64, int) {
	n := len(word)
	var row []uint64
	distance := 0
	subsets(n, k, func(idx []int) bool {
		x, y := make([]uint64, k), make([]uint64, k)
		for j, i := range idx {
			x[j], y[j] = field.Pow(root(n), uint64(i)), word[i]
		}
		l, d := through(x, y), 0
		for i, symbol := range values(l, n) {
			if symbol != word[i] {
				d++
			}
		}
		if d <= (n-k)/2 {
			row, distance = l, d
		}
		return row == nil
	})
	return row, distance
}

// checkSearch fails the test if Decode does not find what the search finds.
func checkSearch(t *testing.T, word []uint64, blowup int) {
	t.Helper()
	if row, d := search(word, len(word)/blowup); row != nil {
		checkDecode(t, word, blowup, row, d)
	} else {
		checkNone(t, word, blowup, api.ErrNone)
	}
}

// I5, P9.4: all numbers of errors up to half the minimum distance are corrected, at all kinds of places.
func TestDecode(t *testing.T) {
	for _, blowup := range blowups() {
		for k := 1; blowup*k <= 64; k *= 2 {
			n := blowup * k
			for _, row := range rows(k) {
				word := encode(t, row, blowup)
				for e := 0; e <= (reedsolomon.MinDistance(k, blowup)-1)/2; e++ {
					for _, idx := range places(n, e) {
						for _, change := range damages() {
							checkDecode(t, damaged(word, idx, change), blowup, row, e)
						}
					}
				}
			}
		}
	}
}

// I5, P9.4: a single error is corrected wherever it is, if the minimum distance allows for it.
func TestDecodeOneError(t *testing.T) {
	for _, blowup := range blowups() {
		for k := 1; blowup*k <= 32; k *= 2 {
			row := random(k, uint64(k))
			for i := range blowup * k {
				word := encode(t, row, blowup)
				word[i] = field.Sub(word[i], 3)
				if radius(len(word), blowup) > 0 {
					checkDecode(t, word, blowup, row, 1)
				} else {
					checkNone(t, word, blowup, api.ErrNone)
				}
			}
		}
	}
}

// I5, P9.4: with more errors there is no row, or that of another codeword which is near enough.
func TestDecodeMoreErrors(t *testing.T) {
	for _, blowup := range blowups() {
		for k := 1; k <= 4 && blowup*k <= 16; k *= 2 {
			n := blowup * k
			row := random(k, uint64(n))
			word := encode(t, row, blowup)
			for e := radius(n, blowup) + 1; e <= n; e++ {
				for _, idx := range places(n, e) {
					for _, change := range damages() {
						checkSearch(t, damaged(word, idx, change), blowup)
					}
				}
			}
		}
	}
}

// I5, P9.4: all words of 8 symbols that are 0 or 1, most of which are far from all codewords.
func TestDecodeSmallSymbols(t *testing.T) {
	for _, blowup := range []int{2, 4, 8} {
		for bits := range 256 {
			word := make([]uint64, 8)
			for i := range word {
				word[i] = uint64(bits >> i & 1)
			}
			checkSearch(t, word, blowup)
		}
	}
}

// I5, P9.4: the words of single powers, which make Euclid's algorithm skip many degrees, and sums of two of them.
func TestDecodePowers(t *testing.T) {
	for _, n := range []int{2, 4, 8, 16} {
		for _, blowup := range blowups() {
			if blowup > n || n/blowup > 4 {
				continue
			}
			for i := range n {
				l := power(5, i, n)
				checkSearch(t, values(l, n), blowup)
				l[i/2] = field.Add(l[i/2], p-2)
				checkSearch(t, values(l, n), blowup)
			}
		}
	}
	// Rows of 8 elements, for which the search takes longer.
	for _, i := range []int{8, 11, 12, 15} {
		checkSearch(t, values(power(5, i, 16), 16), 2)
	}
}

// I5, P9.4: words between two or three codewords, with some symbols of each.
func TestDecodeBetweenCodewords(t *testing.T) {
	for _, blowup := range blowups() {
		for k := 1; k <= 4 && blowup*k <= 16; k *= 2 {
			n := blowup * k
			a, b, c := encode(t, random(k, 1), blowup), encode(t, random(k, 2), blowup), encode(t, random(k, 3), blowup)
			for e := range n + 1 {
				for _, idx := range places(n, e) {
					word := slices.Clone(a)
					for j, i := range idx {
						word[i] = b[i]
						if j%7 == 5 {
							word[i] = c[i]
						}
					}
					checkSearch(t, word, blowup)
				}
			}
		}
	}
}

// I5, P9.4: on the way from a codeword to a nearest other one, Decode returns the nearer one of the two, and none of them
// in the middle.
func TestDecodeHalfway(t *testing.T) {
	for _, blowup := range blowups() {
		for k := 1; blowup*k <= 64; k *= 2 {
			row := random(k, uint64(k))
			other := sum(row, vanishing(k, blowup))
			word, there := encode(t, row, blowup), encode(t, other, blowup)
			steps, most := reedsolomon.MinDistance(k, blowup), radius(blowup*k, blowup)
			done := 0
			for _, i := range shuffled(blowup*k, uint64(k)) {
				switch {
				case done <= most:
					checkDecode(t, word, blowup, row, done)
				case steps-done <= most:
					checkDecode(t, word, blowup, other, steps-done)
				default:
					checkNone(t, word, blowup, api.ErrNone)
				}
				if word[i] != there[i] {
					word[i] = there[i]
					done++
				}
			}
			if done != steps {
				t.Fatalf("blowup %d, %d elements: the distance is %d", blowup, k, done)
			}
		}
	}
}

// I5, P9.4: as many errors as can be corrected in longer words, and one more.
func TestDecodeManyErrors(t *testing.T) {
	for _, blowup := range blowups() {
		for _, n := range []int{128, 512, 4096} {
			row, most := random(n/blowup, uint64(n)), radius(n, blowup)
			word := encode(t, row, blowup)
			for _, e := range []int{0, 1, most / 2, most - 1, most} {
				checkDecode(t, damaged(word, shuffled(n, uint64(e))[:e], damages()[1]), blowup, row, e)
			}
			// There could be another codeword that is near enough, but in a field of this size it is not met by chance.
			checkNone(t, damaged(word, shuffled(n, 1)[:most+1], damages()[1]), blowup, api.ErrNone)
			checkNone(t, random(n, 5), blowup, api.ErrNone)
		}
	}
}

// I5, P9.4: words of the greatest length.
func TestDecodeLongest(t *testing.T) {
	for _, blowup := range blowups() {
		row := random(longest/blowup, uint64(blowup))
		word := encode(t, row, blowup)
		for _, e := range []int{0, 1, 100} {
			checkDecode(t, damaged(word, shuffled(longest, uint64(e))[:e], damages()[0]), blowup, row, e)
		}
	}
}
