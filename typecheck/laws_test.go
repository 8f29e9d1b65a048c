package typecheck_test

import (
	"math/big"
	"slices"
	"sync"
	"testing"

	"attestor/api"
	"attestor/query"
	"attestor/typecheck"
)

// valueOf returns the value of a column of a reading.
func valueOf(r api.Reading, col int) int { return []int{r.Who, r.When, r.Kind, r.Value}[col] }

// added returns the numbers that a reading adds to the sums of a query.
func added(q api.Query, r api.Reading) []*big.Int {
	l := make([]*big.Int, sizes[q.Kind-1])
	for v := range l {
		l[v] = new(big.Int)
	}
	for i, f := range q.Filters {
		if !query.Match(f, r) {
			continue
		}
		switch q.Kind {
		case api.Count:
			l[0].SetInt64(1)
		case api.Total:
			l[0].SetInt64(int64(valueOf(r, q.Col)))
		case api.Moment:
			l[0].Exp(big.NewInt(int64(valueOf(r, q.Col))), big.NewInt(int64(q.K)), nil)
		case api.Pairs:
			l[16*i+r.Who].SetInt64(1)
		default:
			l[valueOf(r, q.Col)].SetInt64(1)
		}
	}
	return l
}

// some returns a reading, of which the fields are often the ends of the ranges of conditions.
func some(q api.Query, next func(int) int) api.Reading {
	values := [4]int{next(16), next(256), next(16), next(256)}
	f := q.Filters[next(len(q.Filters))]
	for _, c := range f {
		if next(4) > 0 {
			values[c.Col] = []int{c.Lo, c.Hi, c.Lo + next(c.Hi-c.Lo+1)}[next(3)]
		}
	}
	return api.Reading{Who: values[0], When: values[1], Kind: values[2], Value: values[3]}
}

// accepted calls f for the queries that are accepted for a number of readings, and with their bounds.
func accepted(l []api.Query, rows int, f func(q api.Query, bounds []int64)) {
	for _, q := range l {
		if b, err := typecheck.Check(q, rows); err == api.OK {
			f(q, b.Sums)
		}
	}
}

// P14.2: the sums over some readings are at most the bounds for their number, and those for more readings.
func TestBoundsAreSound(t *testing.T) {
	next := generator(3)
	for _, rows := range []int{0, 1, 2, 5, 30} {
		accepted(queries(), rows, func(q api.Query, bounds []int64) {
			sums := added(q, api.Reading{})
			for v := range sums {
				sums[v] = new(big.Int)
			}
			for range rows - min(rows, next(2)) {
				for v, n := range added(q, some(q, next)) {
					sums[v].Add(sums[v], n)
				}
			}
			for v, bound := range bounds {
				if sums[v].Sign() < 0 || sums[v].Cmp(big.NewInt(bound)) > 0 {
					t.Errorf("%v: sum %d is %v, but its bound for %d readings is %d", q, v, sums[v], rows, bound)
				}
			}
		})
	}
}

// P14.2: no single reading exceeds a bound.
func TestNoReadingExceedsBounds(t *testing.T) {
	next := generator(4)
	accepted(queries(), 1, func(q api.Query, bounds []int64) {
		for range 20 {
			r := some(q, next)
			for v, n := range added(q, r) {
				if n.Cmp(big.NewInt(bounds[v])) > 0 {
					t.Errorf("%v: %v adds %v to sum %d, but its bound is %d", q, r, n, v, bounds[v])
				}
			}
		}
	})
}

// attaining returns the readings that add most to the sums of a query, or nothing for a filter that is not satisfiable.
func attaining(q api.Query) map[int]api.Reading {
	readings := map[int]api.Reading{}
	for i, f := range q.Filters {
		kept := keptBy(f)
		if slices.ContainsFunc(kept, func(l []int) bool { return len(l) == 0 }) {
			continue
		}
		for v := range sizes[q.Kind-1] / len(q.Filters) {
			var l [4]int
			for col := range l {
				l[col] = slices.Max(kept[col])
			}
			// For Pairs, Col is 0, which is Who.
			if q.Kind >= api.Groups && slices.Contains(kept[q.Col], v) {
				l[q.Col] = v
			}
			readings[16*i+v] = api.Reading{Who: l[0], When: l[1], Kind: l[2], Value: l[3]}
		}
	}
	return readings
}

// P14.3: equal readings attain each bound, which is 0 if no reading satisfies the filter.
func TestBoundsAreTight(t *testing.T) {
	for _, q := range queries() {
		if !hasType(q) {
			continue
		}
		sums := make([]*big.Int, sizes[q.Kind-1])
		readings := attaining(q)
		for v := range sums {
			sums[v] = new(big.Int)
			if r, found := readings[v]; found {
				sums[v] = added(q, r)[v]
			}
		}
		for _, rows := range numbers {
			accepted([]api.Query{q}, rows, func(q api.Query, bounds []int64) {
				for v, bound := range bounds {
					if sum := new(big.Int).Mul(sums[v], big.NewInt(int64(rows))); sum.Cmp(big.NewInt(bound)) != 0 {
						t.Errorf("%v: the bound of sum %d for %d readings is %d, but the sum is %v", q, v, rows, bound, sum)
					}
				}
			})
		}
	}
}

// atMost checks that the bounds of the first call are at most those of the second one; a query that is rejected because
// of its bounds has larger ones than all others.
func atMost(t *testing.T, q api.Query, rows int, other api.Query, more int) {
	t.Helper()
	a, first := typecheck.Check(q, rows)
	b, second := typecheck.Check(other, more)
	if second == api.ErrBound {
		return
	}
	if first != second || len(a.Sums) != len(b.Sums) {
		t.Fatalf("Check(%v, %d) = %v, %d, but Check(%v, %d) = %v, %d", q, rows, a, first, other, more, b, second)
	}
	for v := range a.Sums {
		if a.Sums[v] > b.Sums[v] {
			t.Errorf("Check(%v, %d) = %v, but Check(%v, %d) = %v", q, rows, a, other, more, b)
		}
	}
}

// P14.4: bounds do not decrease with the number of readings.
func TestMoreReadings(t *testing.T) {
	next := generator(5)
	for _, q := range queries() {
		for i, rows := range numbers[1:] {
			atMost(t, q, numbers[i], q, rows)
		}
		rows := next(maxRows + 1)
		atMost(t, q, rows, q, rows+next(maxRows-rows+1))
	}
}

// P14.4: bounds do not increase if a condition is added to a filter, at any place.
func TestMoreConditions(t *testing.T) {
	next := generator(6)
	for _, q := range queries() {
		for i, f := range q.Filters {
			if len(f) == 3 {
				continue
			}
			for range 4 {
				stricter := q
				stricter.Filters = slices.Clone(q.Filters)
				stricter.Filters[i] = slices.Insert(slices.Clone(f), next(len(f)+1), randomCond(next))
				rows := numbers[next(len(numbers))]
				atMost(t, stricter, rows, q, rows)
			}
		}
	}
}

// P14.1: neither the order of the conditions nor a condition that covers a range changes the bounds.
func TestConditionsAreSets(t *testing.T) {
	for _, q := range queries() {
		other := q
		other.Filters = nil
		for _, f := range q.Filters {
			f = slices.Clone(f)
			slices.Reverse(f)
			if len(f) < 3 {
				f = append(f, api.Cond{Col: 1, Hi: 255})
			}
			other.Filters = append(other.Filters, f)
		}
		for _, rows := range []int{1, 16774, maxRows} {
			b, err := typecheck.Check(q, rows)
			check(t, other, rows, b.Sums, err)
		}
	}
}

// P14.5: bounds are rejected exactly if they reach 2^62, at the first number of readings for which they do.
func TestLargestBounds(t *testing.T) {
	limit := new(big.Int).Lsh(big.NewInt(1), 62)
	for _, col := range []int{1, 3} {
		for k := 1; k <= 6; k++ {
			for m := range 256 {
				q := api.Query{Kind: api.Moment, Col: col, K: k, Filters: [][]api.Cond{{{Col: col, Lo: m / 2, Hi: m}}}}
				power := new(big.Int).Exp(big.NewInt(int64(m)), big.NewInt(int64(k)), nil)
				first := maxRows + 1
				if m > 0 {
					first = int(new(big.Int).Div(new(big.Int).Add(limit, new(big.Int).Sub(power, big.NewInt(1))), power).Int64())
				}
				if (first <= maxRows) != (k == 6 && m >= 204) {
					t.Fatalf("%d^%d reaches the limit with %d readings", m, k, first)
				}
				for _, rows := range []int{first - 1, min(first, maxRows), min(first+1, maxRows), maxRows} {
					if rows = min(rows, maxRows); rows >= first {
						check(t, q, rows, nil, api.ErrBound)
					} else {
						check(t, q, rows, []int64{new(big.Int).Mul(power, big.NewInt(int64(rows))).Int64()}, api.OK)
					}
				}
			}
		}
	}
}

// P14.5: queries without columns of 8 bits under powers are accepted for the largest number of readings.
func TestNeverRejected(t *testing.T) {
	for _, q := range queries() {
		if !hasType(q) || q.Kind == api.Moment && limits[q.Col] == 255 {
			continue
		}
		for _, rows := range numbers {
			if _, err := typecheck.Check(q, rows); err != api.OK {
				t.Errorf("Check(%v, %d) has the result %d", q, rows, err)
			}
		}
	}
}

// outcome is what all functions return for some arguments.
type outcome struct {
	bits, sums int
	bounds     []int64
	err        api.Errno
}

// outcomeOf calls all functions.
func outcomeOf(q api.Query, rows int) outcome {
	b, err := typecheck.Check(q, rows)
	return outcome{bits: typecheck.Bits(q.Col), sums: typecheck.Sums(q), bounds: b.Sums, err: err}
}

// equal reports whether two outcomes are equal.
func (x outcome) equal(y outcome) bool {
	return x.bits == y.bits && x.sums == y.sums && slices.Equal(x.bounds, y.bounds) && x.err == y.err
}

// P1: every call returns, also for queries and numbers of readings that are not valid, and an error has no bounds.
func TestCallsReturn(t *testing.T) {
	next := generator(7)
	pick := func() int { return odd[next(len(odd))] }
	for range 50000 {
		q := api.Query{Kind: pick(), Col: pick(), K: pick(), Filters: make([][]api.Cond, next(5))}
		if next(2) == 0 {
			q = randomQuery(next)
		}
		for i := range q.Filters {
			for range next(6) {
				q.Filters[i] = append(q.Filters[i], api.Cond{Col: pick(), Lo: pick(), Hi: pick()})
			}
		}
		x := outcomeOf(q, pick())
		if x.err != api.OK && len(x.bounds) > 0 || x.err == api.OK && len(x.bounds) != x.sums {
			t.Errorf("%v has the results %v", q, x)
		}
	}
}

// P2: equal arguments have equal results, whatever was called before and is called at the same time.
func TestResultsRepeat(t *testing.T) {
	l := queries()
	call := func(k int) outcome { return outcomeOf(l[k], numbers[k%len(numbers)]) }
	var first []outcome
	for k := range l {
		first = append(first, call(k))
	}
	var wait sync.WaitGroup
	for range 4 {
		wait.Go(func() {
			for k, want := range slices.Backward(first) {
				if !call(k).equal(want) {
					t.Errorf("%v has other results", l[k])
				}
			}
		})
	}
	wait.Wait()
}

// The document's rules: nil and empty slices are interchangeable.
func TestEmptySlices(t *testing.T) {
	for _, q := range queries() {
		none, empty := q, q
		none.Filters, empty.Filters = slices.Clone(q.Filters), slices.Clone(q.Filters)
		for i, f := range q.Filters {
			if len(f) == 0 {
				none.Filters[i], empty.Filters[i] = nil, []api.Cond{}
			}
		}
		if x := outcomeOf(none, 100); !x.equal(outcomeOf(empty, 100)) || x.err == api.ErrArg {
			t.Errorf("%v: other results for an empty filter", q)
		}
	}
	check(t, api.Query{Kind: api.Count, Filters: [][]api.Cond{}}, 1, nil, api.ErrArg)
}

// spare returns a copy of l with capacity behind it, and the memory that it lies in.
func spare[T any](l []T, behind T) ([]T, []T) {
	memory := append(slices.Clone(l), slices.Repeat([]T{behind}, 5)...)
	return memory[:len(l)], memory
}

// P2: arguments and the memory behind them stay as they are.
func TestArgumentsStay(t *testing.T) {
	behind := api.Cond{Col: 77, Lo: 78, Hi: 79}
	for _, q := range queries() {
		given := q
		var filters, conds, wants [][]api.Cond
		for _, l := range q.Filters {
			l, memory := spare(l, behind)
			filters, conds, wants = append(filters, l), append(conds, memory), append(wants, slices.Clone(memory))
		}
		var memory [][]api.Cond
		given.Filters, memory = spare(filters, []api.Cond{behind})
		if x := outcomeOf(given, 100); !x.equal(outcomeOf(q, 100)) {
			t.Errorf("the results of %v depend on what lies behind it", q)
		}
		kept := given.Kind == q.Kind && given.Col == q.Col && given.K == q.K && slices.EqualFunc(given.Filters, q.Filters, slices.Equal[[]api.Cond])
		if !kept || !slices.EqualFunc(conds, wants, slices.Equal[[]api.Cond]) || len(memory[len(filters)]) != 1 || memory[len(filters)][0] != behind {
			t.Errorf("%v was modified", q)
		}
	}
}

// P2: no two results share memory.
func TestResultsAreSeparate(t *testing.T) {
	accepted(queries(), 100, func(q api.Query, bounds []int64) {
		want := slices.Clone(bounds)
		second, _ := typecheck.Check(q, 100)
		for v := range bounds[:cap(bounds)] {
			bounds[:cap(bounds)][v] = -7
		}
		if !slices.Equal(second.Sums, want) {
			t.Errorf("%v: two results share memory", q)
		}
		check(t, q, 100, want, api.OK)
	})
}
