package eval_test

import (
	"slices"
	"sync"
	"testing"

	"attestor/api"
	"attestor/eval"
	"attestor/reading"
)

// sizesOfParts are numbers of readings of streams that are put together.
var sizesOfParts = []int{0, 1, 2, 7, 40}

// joined returns the stream with the readings of all parts.
func joined(parts ...api.Stream) api.Stream {
	var s api.Stream
	for _, part := range parts {
		s.L, s.Gone = append(s.L, part.L...), append(s.Gone, part.Gone...)
	}
	return s
}

// added returns the element-wise sums of numbers.
func added(first []int64, others ...[]int64) []int64 {
	l := slices.Clone(first)
	for _, other := range others {
		for v := range l {
			l[v] += other[v]
		}
	}
	return l
}

// P15.2: the sums for a stream are the sums of those for its parts.
func TestSumsOfParts(t *testing.T) {
	next := generator(6)
	for _, q := range queries() {
		var parts []api.Stream
		sums := make([]int64, sizes[q.Kind-1])
		for range 3 {
			part := streamOf(next, sizesOfParts[next(len(sizesOfParts))], next(4))
			parts = append(parts, part)
			sums = added(sums, eval.Sums(q, part))
		}
		if got := eval.Sums(q, joined(parts...)); !slices.Equal(got, sums) {
			t.Errorf("%v: the sums over %v are %v, want %v", q, parts, got, sums)
		}
	}
}

// shuffled returns a stream with the same readings in another order.
func shuffled(next func(int) int, s api.Stream) api.Stream {
	s = api.Stream{L: slices.Clone(s.L), Gone: slices.Clone(s.Gone)}
	for i := range s.L {
		k := i + next(len(s.L)-i)
		s.L[i], s.L[k] = s.L[k], s.L[i]
		s.Gone[i], s.Gone[k] = s.Gone[k], s.Gone[i]
	}
	return s
}

// P15.2: the order of the readings does not matter, neither for the sums nor for the result.
func TestOrder(t *testing.T) {
	next := generator(7)
	for _, q := range queries() {
		s := streamOf(next, 1+next(40), next(4))
		a := eval.Answer(q, s)
		check(t, q, shuffled(next, s), a.Sums, a.Result)
		slices.Reverse(s.L)
		slices.Reverse(s.Gone)
		check(t, q, s, a.Sums, a.Result)
	}
}

// P15.3: retracting a reading subtracts the sums of the stream that consists of this reading only.
func TestRetraction(t *testing.T) {
	next := generator(8)
	for _, q := range queries() {
		s := streamOf(next, 12, 4)
		sums := eval.Sums(q, s)
		for i, gone := range s.Gone {
			if gone || next(2) == 0 {
				continue
			}
			retracted, err := reading.Retract(s, i)
			alone := eval.Sums(q, equals(1, s.L[i]))
			if got := eval.Sums(q, retracted); err != api.OK || !slices.Equal(added(got, alone), sums) {
				t.Errorf("%v: without %v, whose sums are %v, the sums %v are %v", q, s.L[i], alone, sums, got)
			}
			s, sums = retracted, eval.Sums(q, retracted)
		}
	}
}

// P15.3: a reading that is retracted counts as little as one that was never taken.
func TestRetractedReadingsDoNotCount(t *testing.T) {
	next := generator(9)
	for _, q := range queries() {
		s := streamOf(next, 30, 3)
		a := eval.Answer(q, s)
		live := reading.Live(s)
		check(t, q, api.Stream{L: live, Gone: make([]bool, len(live))}, a.Sums, a.Result)
	}
}

// P15.4: the K-th smallest value is the element K - 1 of the sorted values of the matching readings.
func TestSortedValues(t *testing.T) {
	next := generator(10)
	for _, f := range filters() {
		for _, col := range []int{api.Who, api.Kind} {
			s := streamOf(next, next(50), next(4))
			var values []int
			for _, r := range matching(f, s) {
				values = append(values, valueOf(r, col))
			}
			slices.Sort(values)
			for k := 1; k <= len(s.L)+2; k++ {
				var want []int64
				if k <= len(values) {
					want = []int64{int64(values[k-1])}
				}
				q := api.Query{Kind: api.Smallest, Col: col, K: k, Filters: [][]api.Cond{f}}
				if got := eval.Answer(q, s).Result; !slices.Equal(got, want) {
					t.Errorf("%v: the result over the values %v is %v", q, values, got)
				}
			}
		}
	}
}

// P15.4: the number of distinct values is the number of different ones among the matching readings.
func TestDifferentValues(t *testing.T) {
	next := generator(11)
	for _, f := range filters() {
		for _, col := range []int{api.Who, api.Kind} {
			s := streamOf(next, next(25), next(4))
			values := map[int]bool{}
			for _, r := range matching(f, s) {
				values[valueOf(r, col)] = true
			}
			q := api.Query{Kind: api.Distinct, Col: col, Filters: [][]api.Cond{f}}
			if got := eval.Answer(q, s).Result; !slices.Equal(got, []int64{int64(len(values))}) {
				t.Errorf("%v: the result over the values %v is %v", q, values, got)
			}
		}
	}
}

// P15.4: the pairs are those of readings with equal Who, of which the first matches the first filter and the second the
// second one; a reading that matches both is a pair with itself.
func TestPairsOfReadings(t *testing.T) {
	next := generator(12)
	for _, first := range filters() {
		second := randomFilter(next)
		s := streamOf(next, next(40), next(4))
		n := int64(0)
		for _, a := range matching(first, s) {
			for _, b := range matching(second, s) {
				if a.Who == b.Who {
					n++
				}
			}
		}
		q := api.Query{Kind: api.Pairs, Filters: [][]api.Cond{first, second}}
		if got := eval.Answer(q, s).Result; !slices.Equal(got, []int64{n}) {
			t.Errorf("%v: the result over %v is %v, want %d", q, s, got, n)
		}
	}
	q := api.Query{Kind: api.Pairs, Filters: [][]api.Cond{nil, nil}}
	check(t, q, equals(1, api.Reading{Who: 4}), counts(32, 4, 1, 20, 1), []int64{1})
}

// withCond returns a query with one condition more in one of its filters.
func withCond(next func(int) int, q api.Query, c api.Cond) (api.Query, bool) {
	i := next(len(q.Filters))
	if len(q.Filters[i]) == 3 {
		return api.Query{}, false
	}
	q.Filters = slices.Clone(q.Filters)
	q.Filters[i] = slices.Insert(slices.Clone(q.Filters[i]), next(len(q.Filters[i])+1), c)
	return q, true
}

// P15.5: an additional condition never increases a sum.
func TestMoreConditions(t *testing.T) {
	next := generator(13)
	for _, q := range queries() {
		stricter, fits := withCond(next, q, randomCond(next))
		if !fits {
			continue
		}
		s := streamOf(next, 40, next(4))
		sums := eval.Sums(q, s)
		for v, n := range eval.Sums(stricter, s) {
			if n < 0 || n > sums[v] {
				t.Errorf("%v: sum %d is %d, but %d without a condition", stricter, v, n, sums[v])
			}
		}
	}
}

// P15.5: a condition that covers the whole range of its column changes nothing.
func TestWholeRanges(t *testing.T) {
	next := generator(14)
	for _, q := range queries() {
		for col, limit := range limits {
			if same, fits := withCond(next, q, api.Cond{Col: col, Lo: 0, Hi: limit}); fits {
				s := streamOf(next, 20, next(4))
				a := eval.Answer(q, s)
				check(t, same, s, a.Sums, a.Result)
			}
		}
	}
}

// P15.5: a condition and its complement divide the readings.
func TestComplements(t *testing.T) {
	next := generator(15)
	for _, q := range queries() {
		if q.Kind == api.Pairs || len(q.Filters[0]) == 3 {
			continue
		}
		col := next(4)
		at := next(limits[col])
		low, high, s := q, q, streamOf(next, 30, next(4))
		low.Filters = [][]api.Cond{append(slices.Clone(q.Filters[0]), api.Cond{Col: col, Lo: 0, Hi: at})}
		high.Filters = [][]api.Cond{append(slices.Clone(q.Filters[0]), api.Cond{Col: col, Lo: at + 1, Hi: limits[col]})}
		if got, want := added(eval.Sums(low, s), eval.Sums(high, s)), eval.Sums(q, s); !slices.Equal(got, want) {
			t.Errorf("%v: the sums up to %d and from there are %v, want %v", q, at, got, want)
		}
	}
}

// outcome is what all functions return for some arguments.
type outcome struct {
	sums, result []int64
	answer       api.Answer
}

// outcomeOf calls all functions.
func outcomeOf(q api.Query, s api.Stream, sums []int64) outcome {
	return outcome{sums: eval.Sums(q, s), result: eval.Result(q, sums), answer: eval.Answer(q, s)}
}

// equal reports whether two outcomes are equal.
func (x outcome) equal(y outcome) bool {
	return slices.Equal(x.sums, y.sums) && slices.Equal(x.result, y.result) &&
		slices.Equal(x.answer.Sums, y.answer.Sums) && slices.Equal(x.answer.Result, y.answer.Result)
}

// P1: every call returns, also for arguments that do not fit together or are not valid.
func TestCallsReturn(t *testing.T) {
	next := generator(16)
	pick := func() int { return odd[next(len(odd))] }
	l := queries()
	for range 50000 {
		q := api.Query{Kind: next(9), Col: next(6) - 1, K: pick(), Filters: make([][]api.Cond, next(4))}
		if next(2) == 0 {
			q = l[next(len(l))]
		}
		for i := range q.Filters {
			if next(3) == 0 {
				q.Filters = slices.Clone(q.Filters)
				q.Filters[i] = []api.Cond{{Col: pick(), Lo: pick(), Hi: pick()}}
			}
		}
		s := streamOf(next, next(4), 3)
		for i := range s.L {
			if next(2) == 0 {
				s.L[i] = api.Reading{Who: pick(), When: pick(), Kind: pick(), Value: pick()}
			}
		}
		if next(2) == 0 {
			s.Gone = make([]bool, next(6))
		}
		sums := make([]int64, []int{0, 1, 15, 16, 17, 31, 32, 33}[next(8)])
		for v := range sums {
			sums[v] = int64(pick())
		}
		outcomeOf(q, s, sums)
	}
	large := equals(maxRows+1, api.Reading{})
	for _, q := range l {
		outcomeOf(q, large, nil)
	}
	outcomeOf(parsed(t, "moment value 6"), equals(maxRows, api.Reading{Value: 255}), nil)
}

// P2: equal arguments have equal results, whatever was called before and is called at the same time.
func TestResultsRepeat(t *testing.T) {
	l, all := queries(), streams()
	call := func(k int) outcome { return outcomeOf(l[k], all[k%len(all)], make([]int64, sizes[l[k].Kind-1])) }
	var first []outcome
	for k := range l {
		first = append(first, call(k))
	}
	var wait sync.WaitGroup
	for range 4 {
		wait.Go(func() {
			for k, want := range slices.Backward(first) {
				if !call(k).equal(want) {
					t.Errorf("%v has other results", l[k])
				}
			}
		})
	}
	wait.Wait()
}

// The document's rules: nil and empty slices are interchangeable.
func TestEmptySlices(t *testing.T) {
	for _, q := range queries() {
		none, empty := q, q
		none.Filters, empty.Filters = slices.Clone(q.Filters), slices.Clone(q.Filters)
		for i, f := range q.Filters {
			if len(f) == 0 {
				none.Filters[i], empty.Filters[i] = nil, []api.Cond{}
			}
		}
		zeros := make([]int64, sizes[q.Kind-1])
		for _, other := range []api.Query{none, empty} {
			check(t, other, api.Stream{}, zeros, resultOf(q, api.Stream{}))
			check(t, other, api.Stream{L: []api.Reading{}, Gone: []bool{}}, zeros, resultOf(q, api.Stream{}))
			check(t, other, three(), sumsOf(q, three()), resultOf(q, three()))
		}
	}
}

// spare returns a copy of l with capacity behind it, and the memory that it lies in.
func spare[T any](l []T, behind T) ([]T, []T) {
	memory := append(slices.Clone(l), slices.Repeat([]T{behind}, 5)...)
	return memory[:len(l)], memory
}

// P2: arguments and the memory behind them stay as they are.
func TestArgumentsStay(t *testing.T) {
	next := generator(17)
	behind, odd := api.Cond{Col: 77, Lo: 78, Hi: 79}, api.Reading{Who: 1 << 40, Kind: -1}
	for _, q := range queries() {
		s := streamOf(next, 9, 3)
		given, conds, wants := q, [][]api.Cond{}, [][]api.Cond{}
		given.Filters = nil
		for _, l := range q.Filters {
			l, memory := spare(l, behind)
			given.Filters, conds, wants = append(given.Filters, l), append(conds, memory), append(wants, slices.Clone(memory))
		}
		var filters [][]api.Cond
		given.Filters, filters = spare(given.Filters, []api.Cond{behind})
		l, readings := spare(s.L, odd)
		gone, flags := spare(s.Gone, true)
		sums, numbers := spare(sumsOf(q, s), -7)
		before, marks, left := slices.Clone(readings), slices.Clone(flags), slices.Clone(numbers)
		if x := outcomeOf(given, api.Stream{L: l, Gone: gone}, sums); !x.equal(outcomeOf(q, s, sumsOf(q, s))) {
			t.Errorf("the results of %v depend on what lies behind the arguments", q)
		}
		if !slices.EqualFunc(conds, wants, slices.Equal[[]api.Cond]) || !slices.EqualFunc(given.Filters, q.Filters, slices.Equal[[]api.Cond]) ||
			!slices.Equal(filters[len(given.Filters)], []api.Cond{behind}) {
			t.Errorf("%v was modified", q)
		}
		if !slices.Equal(readings, before) || !slices.Equal(flags, marks) || !slices.Equal(numbers, left) {
			t.Errorf("%v: the stream or the sums were modified", q)
		}
	}
}

// overwrite changes the memory of a slice and the capacity behind it.
func overwrite(l []int64) {
	l = l[:cap(l)]
	for i := range l {
		l[i] = -7
	}
}

// P2: no two results share memory with each other or with an argument.
func TestResultsAreSeparate(t *testing.T) {
	next := generator(18)
	for _, q := range queries() {
		s := streamOf(next, 9, 3)
		sums, result := sumsOf(q, s), resultOf(q, s)
		first, second, a := eval.Sums(q, s), eval.Sums(q, s), eval.Answer(q, s)
		given := slices.Clone(sums)
		derived, again := eval.Result(q, given), eval.Result(q, given)
		overwrite(first)
		overwrite(derived)
		if !slices.Equal(second, sums) || !slices.Equal(again, result) || !slices.Equal(given, sums) {
			t.Errorf("%v: results share memory", q)
		}
		overwrite(a.Sums)
		if !slices.Equal(a.Result, result) {
			t.Errorf("%v: the sums and the result of an answer share memory", q)
		}
		overwrite(a.Result)
		check(t, q, s, sums, result)
	}
}
