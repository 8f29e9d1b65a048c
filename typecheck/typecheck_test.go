package typecheck_test

import (
	"math"
	"math/big"
	"slices"
	"testing"

	"attestor/api"
	"attestor/query"
	"attestor/typecheck"
)

// maxRows is the largest number of readings.
const maxRows = 65536

// limits are the largest values of the columns.
var limits = []int{15, 255, 15, 255}

// sizes are the numbers of sums of the kinds, which start at 1.
var sizes = []int{1, 1, 1, 16, 16, 16, 32}

// numbers are numbers of readings.
var numbers = []int{0, 1, 2, 3, 100, 255, 4095, 16773, 16774, 32768, 65535, maxRows}

// odd are numbers of which most are neither kinds nor columns nor values nor numbers of readings.
var odd = []int{math.MinInt, math.MinInt + 1, -1 << 32, -65536, -256, -2, -1, 0, 1, 2, 3, 4, 5, 6, 7, 8, 14, 15, 16, 17, 254, 255, 256, 257,
	65535, 65536, 65537, 1 << 32, 1<<32 + 1, math.MaxInt}

// generator returns a function that returns numbers without a pattern, always the same for the same seed.
func generator(seed uint64) func(limit int) int {
	x := seed
	return func(limit int) int {
		x = x*6364136223846793005 + 1442695040888963407
		return int((x >> 33) % uint64(limit))
	}
}

// randomCond returns a valid condition, of which most leave many values.
func randomCond(next func(int) int) api.Cond {
	col := next(4)
	a, b := next(limits[col]+1), next(limits[col]+1)
	switch next(5) {
	case 0:
		b = a
	case 1:
		a = 0
	case 2:
		b = limits[col]
	}
	return api.Cond{Col: col, Lo: min(a, b), Hi: max(a, b)}
}

// randomFilter returns a valid filter.
func randomFilter(next func(int) int) []api.Cond {
	l := []api.Cond{}
	for range next(4) {
		l = append(l, randomCond(next))
	}
	return l
}

// randomQuery returns a valid query.
func randomQuery(next func(int) int) api.Query {
	q := api.Query{Kind: 1 + next(7), Filters: [][]api.Cond{randomFilter(next)}}
	switch q.Kind {
	case api.Total, api.Groups, api.Distinct:
		q.Col = next(4)
	case api.Moment:
		q.Col, q.K = next(4), 1+next(6)
	case api.Smallest:
		q.Col, q.K = next(4), 1+next(65536)>>next(17)
	case api.Pairs:
		q.Filters = append(q.Filters, randomFilter(next))
	}
	return q
}

// filters returns valid filters with 0 to 3 conditions, of which some contradict each other.
func filters() [][]api.Cond {
	l := [][]api.Cond{nil, {}}
	for col, limit := range limits {
		low, high := api.Cond{Col: col, Lo: 0, Hi: limit/2 + 1}, api.Cond{Col: col, Lo: limit / 2, Hi: limit}
		least, most := api.Cond{Col: col}, api.Cond{Col: col, Lo: limit, Hi: limit}
		other := api.Cond{Col: 3 - col, Lo: 2, Hi: 9}
		l = append(l, []api.Cond{low}, []api.Cond{high}, []api.Cond{least}, []api.Cond{most}, []api.Cond{low, high}, []api.Cond{high, low},
			[]api.Cond{least, most}, []api.Cond{most, other, least}, []api.Cond{high, least}, []api.Cond{low, other, high}, []api.Cond{other, low, low},
			[]api.Cond{high, {Col: col, Lo: 1, Hi: limit - 1}, low}, []api.Cond{{Col: col, Lo: 0, Hi: limit}})
	}
	return l
}

// queries returns valid queries of all forms.
func queries() []api.Query {
	var l []api.Query
	for i, f := range filters() {
		one := [][]api.Cond{f}
		l = append(l, api.Query{Kind: api.Count, Filters: one})
		for col := range 4 {
			for _, kind := range []int{api.Total, api.Groups, api.Distinct} {
				l = append(l, api.Query{Kind: kind, Col: col, Filters: one})
			}
			for k := range 6 {
				l = append(l, api.Query{Kind: api.Moment, Col: col, K: k + 1, Filters: one})
			}
			for _, k := range []int{1, 16, 65536} {
				l = append(l, api.Query{Kind: api.Smallest, Col: col, K: k, Filters: one})
			}
		}
		for _, second := range filters()[i%5:] {
			l = append(l, api.Query{Kind: api.Pairs, Filters: [][]api.Cond{f, second}})
		}
	}
	for next, i := generator(1), 0; i < 1000; i++ {
		l = append(l, randomQuery(next))
	}
	return l
}

// values returns the values of a column that satisfy the conditions of a filter on it.
func values(l []api.Cond, col int) []int {
	var kept []int
	for v := range limits[col] + 1 {
		if !slices.ContainsFunc(l, func(c api.Cond) bool { return c.Col == col && (v < c.Lo || v > c.Hi) }) {
			kept = append(kept, v)
		}
	}
	return kept
}

// keptBy returns the values of all columns that satisfy the conditions of a filter on them.
func keptBy(l []api.Cond) [][]int {
	var kept [][]int
	for col := range limits {
		kept = append(kept, values(l, col))
	}
	return kept
}

// most returns the bound of sum v of a query for one reading, with the values that the columns keep under its filter.
func most(q api.Query, kept [][]int, v int) *big.Int {
	col := q.Col
	if q.Kind == api.Pairs {
		col, v = api.Who, v%16
	}
	switch {
	case slices.ContainsFunc(kept, func(l []int) bool { return len(l) == 0 }):
		return new(big.Int)
	case q.Kind == api.Count:
		return big.NewInt(1)
	case q.Kind == api.Total:
		return big.NewInt(int64(slices.Max(kept[col])))
	case q.Kind == api.Moment:
		return new(big.Int).Exp(big.NewInt(int64(slices.Max(kept[col]))), big.NewInt(int64(q.K)), nil)
	case slices.Contains(kept[col], v):
		return big.NewInt(1)
	}
	return new(big.Int)
}

// mostOf returns the bounds of all sums of a query for one reading.
func mostOf(q api.Query) []*big.Int {
	var l []*big.Int
	for _, f := range q.Filters {
		kept := keptBy(f)
		for v := range sizes[q.Kind-1] / len(q.Filters) {
			l = append(l, most(q, kept, v))
		}
	}
	return l
}

// hasType reports whether the column of a valid query has the type that its kind demands.
func hasType(q api.Query) bool {
	switch q.Kind {
	case api.Groups, api.Distinct, api.Smallest:
		return limits[q.Col] == 15
	}
	return true
}

// reference returns what Check specifies for a valid query with the given bounds for one reading.
func reference(q api.Query, one []*big.Int, rows int) ([]int64, api.Errno) {
	if rows < 0 || rows > maxRows {
		return nil, api.ErrArg
	}
	if !hasType(q) {
		return nil, api.ErrType
	}
	var l []int64
	for _, n := range one {
		bound := new(big.Int).Mul(n, big.NewInt(int64(rows)))
		if bound.BitLen() > 62 {
			return nil, api.ErrBound
		}
		l = append(l, bound.Int64())
	}
	return l, api.OK
}

// check checks the results of Check.
func check(t *testing.T, q api.Query, rows int, want []int64, wantErr api.Errno) {
	t.Helper()
	if b, err := typecheck.Check(q, rows); !slices.Equal(b.Sums, want) || err != wantErr {
		t.Fatalf("Check(%v, %d) = %v, %d, want %v, %d", q, rows, b, err, want, wantErr)
	}
}

// N1: the numbers of bits of the columns.
func TestBits(t *testing.T) {
	want := map[int]int{0: 4, 1: 8, 2: 4, 3: 8, 4: 1}
	for _, col := range odd {
		if got := typecheck.Bits(col); got != want[col] {
			t.Errorf("Bits(%d) = %d", col, got)
		}
	}
	for col := -1000; col < 1000; col++ {
		if got := typecheck.Bits(col); got != want[col] {
			t.Errorf("Bits(%d) = %d", col, got)
		}
	}
}

// N1: the numbers of sums of the kinds, whatever else a query holds.
func TestSums(t *testing.T) {
	want := map[int]int{1: 1, 2: 1, 3: 1, 4: 16, 5: 16, 6: 16, 7: 32}
	bad := api.Cond{Col: 9, Lo: 5, Hi: 4}
	for _, kind := range append(slices.Clone(odd), 9, 10, 100) {
		for _, col := range odd {
			for _, k := range odd {
				for _, f := range [][][]api.Cond{nil, {{}}, {{bad}}, {{bad, bad, bad, bad}, nil}, {{}, {}, {}}} {
					q := api.Query{Kind: kind, Col: col, K: k, Filters: f}
					if got := typecheck.Sums(q); got != want[kind] {
						t.Fatalf("Sums(%v) = %d", q, got)
					}
				}
			}
		}
	}
}

// parse returns the query of a text.
func parse(t *testing.T, text string) api.Query {
	t.Helper()
	q, at, err := query.Parse(text)
	if err != api.OK {
		t.Fatalf("Parse(%q): %d at %d", text, err, at)
	}
	return q
}

// The examples of the chapter, and that of DOC.md.
func TestExamples(t *testing.T) {
	check(t, parse(t, "total value"), 100, []int64{25500}, api.OK)
	check(t, parse(t, "total value where value in 3..9"), 100, []int64{900}, api.OK)
	check(t, parse(t, "moment value 6"), 100, []int64{100 * 255 * 255 * 255 * 255 * 255 * 255}, api.OK)
	check(t, parse(t, "moment value 6"), maxRows, nil, api.ErrBound)
	check(t, parse(t, "groups value"), 100, nil, api.ErrType)
	for _, rows := range numbers {
		n := int64(rows)
		check(t, parse(t, "groups who where who in 2..3"), rows, []int64{0, 0, n, n, 0, 0, 0, 0, 0, 0, 0, 0, 0, 0, 0, 0}, api.OK)
	}
}

// N2: bounds of all kinds.
func TestCheck(t *testing.T) {
	all := slices.Repeat([]int64{9}, 16)
	for _, e := range []struct {
		text string
		rows int
		want []int64
	}{
		{"count", 0, []int64{0}}, {"count", 1, []int64{1}}, {"count", maxRows, []int64{maxRows}},
		{"count where who = 0 and value = 0", 7, []int64{7}}, {"count where who = 3 and who = 4", 7, []int64{0}},
		{"count where who in 3..5 and who in 5..8", 7, []int64{7}}, {"count where who in 3..4 and when = 7 and who in 5..8", 7, []int64{0}},
		{"total who", 2, []int64{30}}, {"total when", 2, []int64{510}}, {"total kind", 2, []int64{30}}, {"total value", maxRows, []int64{16711680}},
		{"total value where value = 0", 9, []int64{0}}, {"total value where when in 3..9", 9, []int64{9 * 255}},
		{"total kind where kind in 2..9 and kind in 4..12 and kind in 1..7", 3, []int64{21}},
		{"total value where kind = 3 and kind = 4", 9, []int64{0}},
		{"moment kind 1", 3, []int64{45}}, {"moment kind 6 where kind in 0..2", 3, []int64{192}}, {"moment who 6", maxRows, []int64{65536 * 11390625}},
		{"moment when 2 where when in 0..10", 3, []int64{300}}, {"moment when 5", maxRows, []int64{65536 * 255 * 255 * 255 * 255 * 255}},
		{"moment value 6 where value = 0", maxRows, []int64{0}}, {"moment value 6 where value = 1", maxRows, []int64{maxRows}},
		{"moment value 6", 0, []int64{0}}, {"moment value 6 where who = 1 and who = 2", maxRows, []int64{0}},
		{"groups kind", 9, all}, {"distinct who", 9, all}, {"smallest kind 65536", 9, all}, {"pairs with", 9, slices.Concat(all, all)},
		{"smallest who 3 where who in 15..15", 9, []int64{15: 9}}, {"distinct kind where kind in 0..1 and kind in 1..2", 4, []int64{1: 4, 15: 0}},
		{"groups kind where value = 255 and when = 0", 9, all}, {"groups kind where value = 0 and value = 1", 9, []int64{15: 0}},
		{"groups kind where who = 1", 9, all}, {"groups who where kind = 1", 9, all},
		{"pairs where who = 0 with where who in 14..15", 2, []int64{0: 2, 30: 2, 31: 2}},
		{"pairs where kind = 1 and kind = 2 with where who = 0", 2, []int64{16: 2, 31: 0}},
		{"pairs where who = 15 with where value = 1 and value = 2", 2, []int64{15: 2, 31: 0}},
		{"pairs where who = 1 and who = 2 with where who = 3 and who = 4", 2, []int64{31: 0}},
	} {
		check(t, parse(t, e.text), e.rows, e.want, api.OK)
	}
}

// P14.1: the bounds and errors for valid queries are those of the reference.
func TestReference(t *testing.T) {
	count := map[api.Errno]int{}
	for _, q := range queries() {
		one := mostOf(q)
		for _, rows := range append(slices.Clone(numbers), -1, maxRows+1) {
			want, err := reference(q, one, rows)
			check(t, q, rows, want, err)
			if count[err]++; err == api.OK && len(want) != typecheck.Sums(q) {
				t.Errorf("Sums(%v) = %d, but there are %d bounds", q, typecheck.Sums(q), len(want))
			}
		}
	}
	for _, err := range []api.Errno{api.OK, api.ErrArg, api.ErrType, api.ErrBound} {
		if count[err] < 50 {
			t.Errorf("only %d queries have the result %d", count[err], err)
		}
	}
}

// N2: queries that are not valid and numbers of readings out of range are reported, and this comes first.
func TestInvalidArguments(t *testing.T) {
	for _, q := range []api.Query{parse(t, "count"), parse(t, "groups value"), parse(t, "smallest when 1"), parse(t, "moment value 6")} {
		for _, rows := range odd {
			if rows < 0 || rows > maxRows {
				check(t, q, rows, nil, api.ErrArg)
			}
		}
	}
	good, bad := api.Cond{Col: 3, Lo: 3, Hi: 255}, api.Cond{Col: 3, Lo: 3, Hi: 256}
	one := func(l ...api.Cond) [][]api.Cond { return [][]api.Cond{l} }
	for _, q := range []api.Query{
		{}, {Kind: -1, Filters: one()}, {Kind: 8, Filters: one()}, {Kind: 8, Filters: [][]api.Cond{{}, {}}}, {Kind: api.Count}, {Kind: api.Pairs, Filters: one()},
		{Kind: api.Count, Filters: [][]api.Cond{{}, {}}}, {Kind: api.Pairs, Filters: [][]api.Cond{{}, {}, {}}}, {Kind: api.Count, Col: 1, Filters: one()},
		{Kind: api.Count, K: 1, Filters: one()}, {Kind: api.Total, Col: 4, Filters: one()}, {Kind: api.Total, Col: -1, Filters: one()},
		{Kind: api.Total, Col: 3, K: 1, Filters: one()}, {Kind: api.Moment, Col: 3, Filters: one()}, {Kind: api.Moment, Col: 3, K: 7, Filters: one()},
		{Kind: api.Moment, Col: 3, K: math.MaxInt, Filters: one()}, {Kind: api.Groups, Col: 4, Filters: one()}, {Kind: api.Groups, Col: 3, K: 1, Filters: one()},
		{Kind: api.Distinct, Col: 5, Filters: one()}, {Kind: api.Smallest, Col: 1, Filters: one()}, {Kind: api.Smallest, Col: 2, K: 65537, Filters: one()},
		{Kind: api.Total, Col: 3, Filters: one(bad)}, {Kind: api.Groups, Col: 3, Filters: one(good, bad)}, {Kind: api.Count, Filters: one(good, good, good, good)},
		{Kind: api.Pairs, Filters: [][]api.Cond{{}, {bad}}}, {Kind: api.Moment, Col: 3, K: 6, Filters: one(api.Cond{Lo: 3, Hi: 2})},
		{Kind: api.Count, Filters: one(api.Cond{Col: 4, Hi: 1})}, {Kind: api.Count, Filters: one(api.Cond{Col: -1, Hi: 1})},
	} {
		for _, rows := range []int{0, 1, maxRows, -1, maxRows + 1} {
			check(t, q, rows, nil, api.ErrArg)
		}
	}
}

// P14.1: exactly the queries that query.Valid accepts are accepted, apart from the other errors.
func TestValidity(t *testing.T) {
	next := generator(2)
	small := func() int { return next(12) - 2 }
	for range 100000 {
		q := api.Query{Kind: small(), Col: small(), K: small(), Filters: make([][]api.Cond, 1+next(2))}
		if next(2) == 0 {
			q = randomQuery(next)
		}
		for i := range q.Filters {
			for range next(3) {
				q.Filters[i] = append(q.Filters[i], api.Cond{Col: next(6) - 1, Lo: next(20) - 1, Hi: next(20) - 1})
			}
		}
		if _, err := typecheck.Check(q, 1); err == api.ErrArg == query.Valid(q) {
			t.Fatalf("Check(%v, 1) has the result %d", q, err)
		}
	}
}

// N2: columns of 8 bits have the wrong type for Groups, Distinct and Smallest only, even if a filter leaves few values.
func TestTypes(t *testing.T) {
	for kind := api.Count; kind <= api.Pairs; kind++ {
		for col := range 4 {
			for _, f := range [][]api.Cond{nil, {{Col: col, Hi: 15}}, {{Col: col}, {Col: col, Lo: 1, Hi: 1}}} {
				q := api.Query{Kind: kind, Col: col, Filters: [][]api.Cond{f}}
				if kind == api.Moment || kind == api.Smallest {
					q.K = 2
				}
				if kind == api.Count || kind == api.Pairs {
					q.Col = 0
				}
				if kind == api.Pairs {
					q.Filters = append(q.Filters, f)
				}
				want := api.OK
				if (col == 1 || col == 3) && kind >= api.Groups && kind <= api.Smallest {
					want = api.ErrType
				}
				for _, rows := range []int{0, 1, maxRows} {
					if b, err := typecheck.Check(q, rows); err != want || err != api.OK && len(b.Sums) > 0 {
						t.Errorf("Check(%v, %d) = %v, %d", q, rows, b, err)
					}
				}
			}
		}
	}
}
