package eval_test

import (
	"math"
	"math/big"
	"slices"
	"testing"

	"attestor/api"
	"attestor/eval"
	"attestor/query"
	"attestor/reading"
)

// maxRows is the largest number of readings.
const maxRows = 65536

// limits are the largest values of the columns.
var limits = []int{15, 255, 15, 255}

// sizes are the numbers of sums of the kinds, which start at 1.
var sizes = []int{1, 1, 1, 16, 16, 16, 32}

// odd are numbers of which most are neither kinds nor columns nor values nor sums.
var odd = []int{math.MinInt, math.MinInt + 1, -1 << 32, -65536, -256, -2, -1, 0, 1, 2, 3, 4, 5, 6, 7, 8, 14, 15, 16, 17, 254, 255, 256, 257,
	65535, 65536, 65537, 1 << 32, 1<<32 + 1, 1 << 62, math.MaxInt}

// generator returns a function that returns numbers without a pattern, always the same for the same seed.
func generator(seed uint64) func(limit int) int {
	x := seed
	return func(limit int) int {
		x = x*6364136223846793005 + 1442695040888963407
		return int((x >> 33) % uint64(limit))
	}
}

// randomCond returns a valid condition, of which most leave many values.
func randomCond(next func(int) int) api.Cond {
	col := next(4)
	a, b := next(limits[col]+1), next(limits[col]+1)
	switch next(5) {
	case 0:
		b = a
	case 1:
		a = 0
	case 2:
		b = limits[col]
	}
	return api.Cond{Col: col, Lo: min(a, b), Hi: max(a, b)}
}

// randomFilter returns a valid filter.
func randomFilter(next func(int) int) []api.Cond {
	l := []api.Cond{}
	for range next(4) {
		l = append(l, randomCond(next))
	}
	return l
}

// filters returns valid filters with 0 to 3 conditions, of which some contradict each other.
func filters() [][]api.Cond {
	l := [][]api.Cond{nil, {}}
	for col, limit := range limits {
		low, high := api.Cond{Col: col, Lo: 0, Hi: limit/2 + 1}, api.Cond{Col: col, Lo: limit / 2, Hi: limit}
		least, most := api.Cond{Col: col}, api.Cond{Col: col, Lo: limit, Hi: limit}
		other := api.Cond{Col: 3 - col, Lo: 2, Hi: 9}
		l = append(l, []api.Cond{low}, []api.Cond{least}, []api.Cond{most}, []api.Cond{low, high}, []api.Cond{least, most},
			[]api.Cond{low, other, high}, []api.Cond{{Col: col, Lo: 0, Hi: limit}})
	}
	for next := generator(1); len(l) < 60; {
		l = append(l, randomFilter(next))
	}
	return l
}

// queries returns queries of all forms, for which there are compatible streams.
func queries() []api.Query {
	var l []api.Query
	for i, f := range filters() {
		one := [][]api.Cond{f}
		l = append(l, api.Query{Kind: api.Count, Filters: one})
		for col := range 4 {
			l = append(l, api.Query{Kind: api.Total, Col: col, Filters: one})
			for k := range 6 {
				l = append(l, api.Query{Kind: api.Moment, Col: col, K: k + 1, Filters: one})
			}
		}
		for _, col := range []int{api.Who, api.Kind} {
			l = append(l, api.Query{Kind: api.Groups, Col: col, Filters: one}, api.Query{Kind: api.Distinct, Col: col, Filters: one})
			for _, k := range []int{1, 2, 3, 5, 16, 40, maxRows} {
				l = append(l, api.Query{Kind: api.Smallest, Col: col, K: k, Filters: one})
			}
		}
		for _, second := range filters()[i%4:] {
			l = append(l, api.Query{Kind: api.Pairs, Filters: [][]api.Cond{f, second}})
		}
	}
	return l
}

// some returns a reading, of which many fields are the smallest and the largest ones.
func some(next func(int) int) api.Reading {
	var l [4]int
	for col, limit := range limits {
		l[col] = []int{next(limit + 1), next(limit + 1), next(10), 0, limit}[next(5)]
	}
	return api.Reading{Who: l[0], When: l[1], Kind: l[2], Value: l[3]}
}

// streamOf returns a stream with n readings, of which one in every part readings is retracted, or none if part is 0.
func streamOf(next func(int) int, n int, part int) api.Stream {
	s := api.Stream{L: make([]api.Reading, n), Gone: make([]bool, n)}
	for i := range n {
		s.L[i] = some(next)
		s.Gone[i] = part > 0 && next(part) == 0
	}
	return s
}

// equals returns a stream with n equal readings.
func equals(n int, r api.Reading) api.Stream {
	return api.Stream{L: slices.Repeat([]api.Reading{r}, n), Gone: make([]bool, n)}
}

// streams returns streams without readings, with few and with more of them, retracted and not.
func streams() []api.Stream {
	next := generator(2)
	most := api.Reading{Who: 15, When: 255, Kind: 15, Value: 255}
	l := []api.Stream{{}, {L: []api.Reading{}, Gone: []bool{}}, equals(1, api.Reading{}), equals(3, most)}
	for _, n := range []int{1, 2, 5, 30, 80} {
		for _, part := range []int{0, 1, 2, 4} {
			l = append(l, streamOf(next, n, part))
		}
	}
	return l
}

// valueOf returns the value of a column of a reading.
func valueOf(r api.Reading, col int) int { return []int{r.Who, r.When, r.Kind, r.Value}[col] }

// matching returns the readings that are not retracted and match a filter, in order.
func matching(l []api.Cond, s api.Stream) []api.Reading {
	var kept []api.Reading
	for i, r := range s.L {
		breaks := func(c api.Cond) bool { return valueOf(r, c.Col) < c.Lo || valueOf(r, c.Col) > c.Hi }
		if !s.Gone[i] && !slices.ContainsFunc(l, breaks) {
			kept = append(kept, r)
		}
	}
	return kept
}

// have returns the number of readings that have a value in a column.
func have(l []api.Reading, col int, v int) int64 {
	n := int64(0)
	for _, r := range l {
		if valueOf(r, col) == v {
			n++
		}
	}
	return n
}

// powers returns the sum of the k-th powers of the values of a column.
func powers(l []api.Reading, col int, k int) int64 {
	sum := new(big.Int)
	for _, r := range l {
		sum.Add(sum, new(big.Int).Exp(big.NewInt(int64(valueOf(r, col))), big.NewInt(int64(k)), nil))
	}
	return sum.Int64()
}

// sumsOf returns the sums of a query as O1 describes them.
func sumsOf(q api.Query, s api.Stream) []int64 {
	first := matching(q.Filters[0], s)
	switch q.Kind {
	case api.Count:
		return []int64{int64(len(first))}
	case api.Total:
		return []int64{powers(first, q.Col, 1)}
	case api.Moment:
		return []int64{powers(first, q.Col, q.K)}
	}
	sums := make([]int64, sizes[q.Kind-1])
	for v := range 16 {
		if q.Kind == api.Pairs {
			sums[v], sums[16+v] = have(first, api.Who, v), have(matching(q.Filters[1], s), api.Who, v)
		} else {
			sums[v] = have(first, q.Col, v)
		}
	}
	return sums
}

// resultOf returns the result of a query over the readings themselves, as P15.4 describes it.
func resultOf(q api.Query, s api.Stream) []int64 {
	first := matching(q.Filters[0], s)
	var values []int
	for _, r := range first {
		values = append(values, valueOf(r, q.Col))
	}
	slices.Sort(values)
	switch q.Kind {
	case api.Distinct:
		return []int64{int64(len(slices.Compact(values)))}
	case api.Smallest:
		if q.K > len(values) {
			return nil
		}
		return []int64{int64(values[q.K-1])}
	case api.Pairs:
		n := int64(0)
		for _, r := range first {
			n += have(matching(q.Filters[1], s), api.Who, r.Who)
		}
		return []int64{n}
	}
	return sumsOf(q, s)
}

// check checks the results of all functions for a query and a stream.
func check(t *testing.T, q api.Query, s api.Stream, sums []int64, result []int64) {
	t.Helper()
	if got := eval.Sums(q, s); !slices.Equal(got, sums) {
		t.Errorf("Sums of %v over %d readings = %v, want %v", q, len(s.L), got, sums)
	}
	if got := eval.Result(q, sums); !slices.Equal(got, result) {
		t.Errorf("Result(%v, %v) = %v, want %v", q, sums, got, result)
	}
	if a := eval.Answer(q, s); !slices.Equal(a.Sums, sums) || !slices.Equal(a.Result, result) {
		t.Errorf("Answer of %v over %d readings = %v, want %v, %v", q, len(s.L), a, sums, result)
	}
}

// parsed returns the query with a text.
func parsed(t *testing.T, text string) api.Query {
	t.Helper()
	q, at, err := query.Parse(text)
	if err != api.OK {
		t.Fatalf("Parse(%q) has the result %d at %d", text, err, at)
	}
	return q
}

// counts returns n sums, of which those with the given indices, in pairs with their values, are not zero.
func counts(n int, l ...int64) []int64 {
	sums := make([]int64, n)
	for i := 0; i < len(l); i += 2 {
		sums[l[i]] = l[i+1]
	}
	return sums
}

// three returns the readings of the examples.
func three() api.Stream {
	l := []api.Reading{{Who: 1, When: 7, Kind: 5, Value: 10}, {Who: 1, When: 9, Kind: 6, Value: 20}, {Who: 2, When: 9, Kind: 5, Value: 30}}
	return api.Stream{L: l, Gone: make([]bool, 3)}
}

// P15.1: the examples of the chapter, and some more of each kind.
func TestExamples(t *testing.T) {
	for _, c := range []struct {
		text         string
		sums, result []int64
	}{
		{"count where kind = 5", []int64{2}, []int64{2}},
		{"count", []int64{3}, []int64{3}},
		{"count where kind = 5 and value in 11..29", []int64{0}, []int64{0}},
		{"total value", []int64{60}, []int64{60}},
		{"total when where when in 8..255", []int64{18}, []int64{18}},
		{"total who", []int64{4}, []int64{4}},
		{"total kind", []int64{16}, []int64{16}},
		{"moment value 2 where who = 1", []int64{500}, []int64{500}},
		{"moment value 1", []int64{60}, []int64{60}},
		{"moment kind 6", []int64{77906}, []int64{77906}},
		{"groups kind", counts(16, 5, 2, 6, 1), counts(16, 5, 2, 6, 1)},
		{"groups who where value in 20..255", counts(16, 1, 1, 2, 1), counts(16, 1, 1, 2, 1)},
		{"distinct kind", counts(16, 5, 2, 6, 1), []int64{2}},
		{"distinct who where who = 3", counts(16), []int64{0}},
		{"smallest kind 1", counts(16, 5, 2, 6, 1), []int64{5}},
		{"smallest kind 2", counts(16, 5, 2, 6, 1), []int64{5}},
		{"smallest kind 3", counts(16, 5, 2, 6, 1), []int64{6}},
		{"smallest kind 4", counts(16, 5, 2, 6, 1), nil},
		{"smallest who 1 where who = 0", counts(16), nil},
		{"pairs where kind = 5 with where kind in 5..6", counts(32, 1, 1, 2, 1, 17, 2, 18, 1), []int64{3}},
		{"pairs with", counts(32, 1, 2, 2, 1, 17, 2, 18, 1), []int64{5}},
		{"pairs where value = 10 with where value = 30", counts(32, 1, 1, 18, 1), []int64{0}},
	} {
		check(t, parsed(t, c.text), three(), c.sums, c.result)
	}
}

// P15.1: readings that are retracted are not considered.
func TestRetractedReadings(t *testing.T) {
	s := three()
	s.Gone[1] = true
	check(t, parsed(t, "count"), s, []int64{2}, []int64{2})
	check(t, parsed(t, "total value where who = 1"), s, []int64{10}, []int64{10})
	check(t, parsed(t, "moment value 2"), s, []int64{1000}, []int64{1000})
	check(t, parsed(t, "distinct kind"), s, counts(16, 5, 2), []int64{1})
	check(t, parsed(t, "smallest kind 3"), s, counts(16, 5, 2), nil)
	check(t, parsed(t, "pairs with where kind = 5"), s, counts(32, 1, 1, 2, 1, 17, 1, 18, 1), []int64{2})
	s.Gone[0], s.Gone[2] = true, true
	for _, q := range queries() {
		check(t, q, s, make([]int64, sizes[q.Kind-1]), resultOf(q, api.Stream{}))
	}
}

// P15.1: all kinds of queries, over streams without readings, with few and with more of them.
func TestAllQueries(t *testing.T) {
	for i, q := range queries() {
		for k, s := range streams() {
			if k < 5 || (i+k)%3 == 0 {
				check(t, q, s, sumsOf(q, s), resultOf(q, s))
			}
		}
	}
}

// P15.1: every value of a column has a sum of its own, and every column its values.
func TestEveryValue(t *testing.T) {
	for v := range 256 {
		r := api.Reading{Who: v % 16, When: v, Kind: v / 16, Value: 255 - v}
		for col := range 4 {
			x := int64(valueOf(r, col))
			check(t, api.Query{Kind: api.Total, Col: col, Filters: [][]api.Cond{nil}}, equals(1, r), []int64{x}, []int64{x})
		}
		for _, col := range []int{api.Who, api.Kind} {
			sums := counts(16, int64(valueOf(r, col)), 2)
			check(t, api.Query{Kind: api.Groups, Col: col, Filters: [][]api.Cond{nil}}, equals(2, r), sums, sums)
		}
	}
}

// P15.1: the largest number of readings, and the largest sums.
func TestManyReadings(t *testing.T) {
	const sixth, fifth = 255 * 255 * 255 * 255 * 255 * 255, 255 * 255 * 255 * 255 * 255
	r := api.Reading{Who: 15, When: 255, Kind: 15, Value: 255}
	for _, c := range []struct {
		text         string
		rows         int
		sums, result []int64
	}{
		{"count", maxRows, []int64{maxRows}, []int64{maxRows}},
		{"total value", maxRows, []int64{255 * maxRows}, []int64{255 * maxRows}},
		{"total who", maxRows, []int64{15 * maxRows}, []int64{15 * maxRows}},
		{"moment when 5", maxRows, []int64{fifth * maxRows}, []int64{fifth * maxRows}},
		{"moment value 6", 16773, []int64{sixth * 16773}, []int64{sixth * 16773}},
		{"moment value 6 where value in 0..100", maxRows, []int64{0}, []int64{0}},
		{"groups who", maxRows, counts(16, 15, maxRows), counts(16, 15, maxRows)},
		{"distinct kind", maxRows, counts(16, 15, maxRows), []int64{1}},
		{"smallest kind 1", maxRows, counts(16, 15, maxRows), []int64{15}},
		{"smallest kind 65536", maxRows, counts(16, 15, maxRows), []int64{15}},
		{"smallest kind 65536", maxRows - 1, counts(16, 15, maxRows-1), nil},
		{"pairs with", maxRows, counts(32, 15, maxRows, 31, maxRows), []int64{maxRows * maxRows}},
	} {
		check(t, parsed(t, c.text), equals(c.rows, r), c.sums, c.result)
	}
	s := streamOf(generator(3), maxRows, 5)
	for _, text := range []string{"count where when in 10..200", "moment value 5 where who in 3..9", "groups kind", "smallest who 30000"} {
		q := parsed(t, text)
		check(t, q, s, sumsOf(q, s), resultOf(q, s))
	}
}

// results checks the result that is derived from sums.
func results(t *testing.T, text string, sums []int64, want ...int64) {
	t.Helper()
	if got := eval.Result(parsed(t, text), sums); !slices.Equal(got, want) {
		t.Errorf("Result(%q, %v) = %v, want %v", text, sums, got, want)
	}
}

// P15.1: results are derived from sums of all sizes, up to the largest ones, whatever the filters are.
func TestDerivedResults(t *testing.T) {
	const most = 1 << 62
	for _, n := range []int64{0, 1, 2, 65537, most - 1, most} {
		results(t, "count where who in 2..3", []int64{n}, n)
		results(t, "total value", []int64{n}, n)
		results(t, "moment value 6", []int64{n}, n)
		results(t, "groups who where who = 3", counts(16, 15, n), counts(16, 15, n)...)
	}
	results(t, "distinct kind", counts(16, 0, 1, 15, most-1), 2)
	results(t, "distinct kind where kind = 3", counts(16), 0)
	results(t, "distinct who", slices.Repeat([]int64{1 << 58}, 16), 16)
	results(t, "smallest who 1", counts(16, 0, most), 0)
	results(t, "smallest who 1 where who = 0", counts(16, 15, most), 15)
	results(t, "smallest who 65536", slices.Repeat([]int64{4096}, 16), 15)
	results(t, "smallest who 65535", counts(16, 2, 65534, 7, 1), 7)
	results(t, "smallest who 65534", counts(16, 2, 65534, 7, 1), 2)
	results(t, "smallest who 65536", counts(16, 2, 65534, 7, 1))
	results(t, "pairs with", counts(32, 0, 1<<31, 16, 1<<31), most)
	results(t, "pairs with", counts(32, 3, most-1, 19, 1), most-1)
	results(t, "pairs with", counts(32, 3, most), 0)
	results(t, "pairs with", counts(32, 31, most), 0)
	results(t, "pairs with", counts(32, 15, 3, 31, 5, 14, 7, 30, 11, 1, 100, 18, 100), 92)
	results(t, "pairs where who = 1 with", slices.Concat(slices.Repeat([]int64{1 << 20}, 16), slices.Repeat([]int64{1 << 38}, 16)), most)
}

// P15.1: results are those of the sums, which are not those of any stream with at most 65536 readings.
func TestResultsOfSums(t *testing.T) {
	next := generator(4)
	for _, q := range queries() {
		sums := make([]int64, sizes[q.Kind-1])
		for v := range sums {
			sums[v] = int64(next(1<<30)) >> next(40)
		}
		want := slices.Clone(sums)
		switch total := int64(0); q.Kind {
		case api.Distinct:
			want = []int64{16 - int64(len(slices.DeleteFunc(want, func(n int64) bool { return n > 0 })))}
		case api.Smallest:
			v := slices.IndexFunc(sums, func(n int64) bool { total += n; return total >= int64(q.K) })
			if want = []int64{int64(v)}; v < 0 {
				want = nil
			}
		case api.Pairs:
			for w := range 16 {
				total += sums[w] * sums[16+w]
			}
			want = []int64{total}
		}
		if got := eval.Result(q, sums); !slices.Equal(got, want) {
			t.Errorf("Result(%v, %v) = %v, want %v", q, sums, got, want)
		}
	}
}

// P15.1: a stream that Take and Retract return has the same answers as one that is written out.
func TestTakenReadings(t *testing.T) {
	s, taken := streamOf(generator(5), 40, 3), api.Stream{}
	for _, r := range s.L {
		taken, _ = reading.Take(taken, r)
	}
	for i, gone := range s.Gone {
		if gone {
			taken, _ = reading.Retract(taken, i)
		}
	}
	for _, q := range queries() {
		check(t, q, taken, sumsOf(q, s), resultOf(q, s))
	}
}
