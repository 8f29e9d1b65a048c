package eval

import (
	"slices"
	"testing"

	"attestor/api"
)

// rowsOf returns a stream with n zero readings.
func rowsOf(n int) api.Stream { return api.Stream{L: make([]api.Reading, n), Gone: make([]bool, n)} }

// with returns a stream with a reading appended.
func with(s api.Stream, r api.Reading) api.Stream {
	return api.Stream{L: append(slices.Clone(s.L), r), Gone: append(slices.Clone(s.Gone), false)}
}

// The chapter's types: which queries and streams are compatible, and for which sums results can be derived.
func TestCompatible(t *testing.T) {
	count := api.Query{Kind: api.Count, Filters: [][]api.Cond{nil}}
	sixth := api.Query{Kind: api.Moment, Col: api.Value, K: 6, Filters: [][]api.Cond{nil}}
	short, long := rowsOf(3), rowsOf(3)
	short.Gone, long.Gone = make([]bool, 2), make([]bool, 4)
	for i, c := range []struct {
		q    api.Query
		s    api.Stream
		want bool
	}{
		{count, api.Stream{}, true}, {count, rowsOf(3), true}, {count, rowsOf(65536), true}, {count, rowsOf(65537), false},
		{count, short, false}, {count, long, false}, {count, api.Stream{Gone: make([]bool, 1)}, false},
		{count, with(rowsOf(3), api.Reading{Who: 15, When: 255, Kind: 15, Value: 255}), true},
		{count, with(rowsOf(3), api.Reading{Who: 16}), false}, {count, with(rowsOf(3), api.Reading{When: 256}), false},
		{count, with(rowsOf(3), api.Reading{Kind: -1}), false}, {count, with(rowsOf(3), api.Reading{Value: -1}), false},
		{sixth, rowsOf(16773), true}, {sixth, rowsOf(16774), false},
		{api.Query{}, rowsOf(1), false}, {api.Query{Kind: api.Count}, rowsOf(1), false},
		{api.Query{Kind: api.Groups, Col: api.When, Filters: [][]api.Cond{nil}}, rowsOf(1), false},
	} {
		if compatible(c.q, c.s) != c.want {
			t.Errorf("case %d: %v and %d readings", i, c.q, len(c.s.L))
		}
	}
}

func TestDerivable(t *testing.T) {
	sixth := api.Query{Kind: api.Moment, Col: api.Value, K: 6, Filters: [][]api.Cond{nil}}
	pairs := api.Query{Kind: api.Pairs, Filters: [][]api.Cond{nil, nil}}
	for i, c := range []struct {
		q    api.Query
		n    int
		want bool
	}{
		{sixth, 1, true}, {sixth, 0, false}, {sixth, 2, false}, {pairs, 32, true}, {pairs, 31, false}, {pairs, 33, false}, {pairs, 0, false},
		{api.Query{}, 0, false}, {api.Query{Kind: api.Pairs}, 32, false},
		{api.Query{Kind: api.Distinct, Col: api.Value, Filters: [][]api.Cond{nil}}, 16, false},
	} {
		if derivable(c.q, make([]int64, c.n)) != c.want {
			t.Errorf("case %d: %v and %d sums", i, c.q, c.n)
		}
	}
}
