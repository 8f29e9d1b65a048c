package query_test

import (
	"fmt"
	"math"
	"slices"
	"strings"
	"testing"

	"attestor/api"
	"attestor/query"
)

// longest is the largest number of bytes of a text.
const longest = 400

// names and limits are the names of the columns and their largest values.
var (
	names  = []string{"who", "when", "kind", "value"}
	limits = []int{15, 255, 15, 255}
)

// keywords are the keywords of the kinds, which start at 1.
var keywords = []string{"count", "total", "moment", "groups", "distinct", "smallest", "pairs"}

// odd are numbers of which most are neither kinds nor columns nor values.
var odd = []int{math.MinInt, math.MinInt + 1, -1 << 32, -65536, -256, -2, -1, 0, 1, 2, 3, 4, 5, 6, 7, 8, 14, 15, 16, 17, 254, 255, 256, 257,
	65535, 65536, 65537, 1 << 32, 1<<32 + 1, math.MaxInt}

// generator returns a function that returns numbers without a pattern, always the same for the same seed.
func generator(seed uint64) func(limit int) int {
	x := seed
	return func(limit int) int {
		x = x*6364136223846793005 + 1442695040888963407
		return int((x >> 33) % uint64(limit))
	}
}

// randomCond returns a valid condition.
func randomCond(next func(int) int) api.Cond {
	col := next(4)
	a, b := next(limits[col]+1), next(limits[col]+1)
	if next(4) == 0 {
		b = a
	}
	return api.Cond{Col: col, Lo: min(a, b), Hi: max(a, b)}
}

// randomFilter returns a valid filter.
func randomFilter(next func(int) int) []api.Cond {
	l := []api.Cond{}
	for range next(4) {
		l = append(l, randomCond(next))
	}
	return l
}

// randomQuery returns a valid query.
func randomQuery(next func(int) int) api.Query {
	q := api.Query{Kind: 1 + next(7), Filters: [][]api.Cond{randomFilter(next)}}
	switch q.Kind {
	case api.Total, api.Groups, api.Distinct:
		q.Col = next(4)
	case api.Moment:
		q.Col, q.K = next(4), 1+next(6)
	case api.Smallest:
		q.Col, q.K = next(4), 1+next(65536)>>next(17)
	case api.Pairs:
		q.Filters = append(q.Filters, randomFilter(next))
	}
	return q
}

// filters returns valid filters with 0 to 3 conditions, with the smallest and largest values.
func filters() [][]api.Cond {
	l := [][]api.Cond{nil, {}}
	for col, limit := range limits {
		for _, c := range []api.Cond{{Col: col, Hi: limit}, {Col: col}, {Col: col, Lo: limit, Hi: limit}, {Col: col, Lo: 1, Hi: 10}} {
			l = append(l, []api.Cond{c}, []api.Cond{c, c}, []api.Cond{{Col: 3 - col, Lo: 2, Hi: 9}, c, {Lo: 3, Hi: 3}})
		}
	}
	return l
}

// queries returns valid queries of all forms.
func queries() []api.Query {
	var l []api.Query
	for i, f := range filters() {
		one := [][]api.Cond{f}
		l = append(l, api.Query{Kind: api.Count, Filters: one})
		for col := range 4 {
			for _, kind := range []int{api.Total, api.Groups, api.Distinct} {
				l = append(l, api.Query{Kind: kind, Col: col, Filters: one})
			}
			for k := range 6 {
				l = append(l, api.Query{Kind: api.Moment, Col: col, K: k + 1, Filters: one})
			}
			for _, k := range []int{1, 2, 6, 7, 9, 10, 16, 99, 100, 101, 999, 1000, 9999, 10000, 10001, 65535, 65536} {
				l = append(l, api.Query{Kind: api.Smallest, Col: col, K: k, Filters: one})
			}
		}
		for _, second := range filters()[i%5:] {
			l = append(l, api.Query{Kind: api.Pairs, Filters: [][]api.Cond{f, second}})
		}
	}
	for next, i := generator(1), 0; i < 1000; i++ {
		l = append(l, randomQuery(next))
	}
	return l
}

// same reports whether two queries are equal.
func same(a api.Query, b api.Query) bool {
	return a.Kind == b.Kind && a.Col == b.Col && a.K == b.K && slices.EqualFunc(a.Filters, b.Filters, slices.Equal[[]api.Cond])
}

// isZero reports whether q is the zero query.
func isZero(q api.Query) bool { return same(q, api.Query{}) }

// M1: the table of the forms.
func TestValidForms(t *testing.T) {
	for _, kind := range odd {
		for _, col := range odd {
			for _, k := range odd {
				for n := range 5 {
					column, want := col >= 0 && col <= 3, false
					switch kind {
					case 1:
						want = col == 0 && k == 0 && n == 1
					case 2, 4, 5:
						want = column && k == 0 && n == 1
					case 3:
						want = column && k >= 1 && k <= 6 && n == 1
					case 6:
						want = column && k >= 1 && k <= 65536 && n == 1
					case 7:
						want = col == 0 && k == 0 && n == 2
					}
					q := api.Query{Kind: kind, Col: col, K: k, Filters: make([][]api.Cond, n)}
					if got := query.Valid(q); got != want {
						t.Fatalf("Valid(%v) = %v", q, got)
					}
				}
			}
		}
	}
	if query.Valid(api.Query{}) {
		t.Error("the zero query is valid")
	}
	for _, q := range queries() {
		if !query.Valid(q) {
			t.Errorf("Valid(%v) = false", q)
		}
	}
}

// M1: conditions have a column and two of its values in order.
func TestValidConditions(t *testing.T) {
	for _, col := range odd {
		for _, lo := range odd {
			for _, hi := range odd {
				want := col >= 0 && col <= 3 && lo >= 0 && lo <= hi && hi <= limits[col&3]
				c := api.Cond{Col: col, Lo: lo, Hi: hi}
				if got := query.Valid(api.Query{Kind: api.Count, Filters: [][]api.Cond{{c}}}); got != want {
					t.Fatalf("Valid of a query with %v = %v", c, got)
				}
			}
		}
	}
}

// M1: each condition of each filter has to be valid, and a filter has at most three.
func TestValidFilters(t *testing.T) {
	good, bad := api.Cond{Col: 2, Lo: 3, Hi: 15}, api.Cond{Col: 2, Lo: 3, Hi: 16}
	for n := range 9 {
		l := slices.Repeat([]api.Cond{good}, n)
		for _, q := range []api.Query{
			{Kind: api.Count, Filters: [][]api.Cond{l}}, {Kind: api.Smallest, Col: 1, K: 5, Filters: [][]api.Cond{l}},
			{Kind: api.Pairs, Filters: [][]api.Cond{{}, l}}, {Kind: api.Pairs, Filters: [][]api.Cond{l, {good}}},
			{Kind: api.Pairs, Filters: [][]api.Cond{l, l}},
		} {
			if got := query.Valid(q); got != (n <= 3) {
				t.Errorf("%d conditions: Valid(%v) = %v", n, q, got)
			}
			for i := range n {
				l[i] = bad
				if query.Valid(q) {
					t.Errorf("Valid(%v) = true", q)
				}
				l[i] = good
			}
		}
	}
}

// conditions returns the filter with the given conditions.
func conditions(l ...api.Cond) [][]api.Cond { return [][]api.Cond{l} }

// The examples of the chapter.
func TestExamples(t *testing.T) {
	for _, e := range []struct {
		text string
		q    api.Query
		at   int
		err  api.Errno
	}{
		{"count", api.Query{Kind: 1, Filters: conditions()}, 0, api.OK},
		{"moment value 2 where who = 3 and when in 0..99",
			api.Query{Kind: 3, Col: 3, K: 2, Filters: conditions(api.Cond{Col: 0, Lo: 3, Hi: 3}, api.Cond{Col: 1, Lo: 0, Hi: 99})}, 0, api.OK},
		{"pairs where kind = 1 with where kind = 2", api.Query{Kind: 7, Filters: [][]api.Cond{{{Col: 2, Lo: 1, Hi: 1}}, {{Col: 2, Lo: 2, Hi: 2}}}}, 0, api.OK},
		{"total value where who in 3..2", api.Query{}, 28, api.ErrArg},
		{"count where", api.Query{}, 11, api.ErrEnd},
	} {
		check(t, e.text, e.q, e.at, e.err)
	}
}

// check checks the results of Parse.
func check(t *testing.T, text string, want api.Query, wantAt int, wantErr api.Errno) {
	t.Helper()
	if q, at, err := query.Parse(text); !same(q, want) || at != wantAt || err != wantErr {
		t.Errorf("Parse(%q) = %v, %d, %d, want %v, %d, %d", text, q, at, err, want, wantAt, wantErr)
	}
}

// M2: queries of all kinds, with and without space between the tokens.
func TestParse(t *testing.T) {
	who, when := api.Cond{Col: 0, Lo: 7, Hi: 7}, api.Cond{Col: 1, Lo: 0, Hi: 255}
	for text, want := range map[string]api.Query{
		" \t\r\ncount \t\r\n":                                 {Kind: 1, Filters: conditions()},
		"count where who=7":                                   {Kind: 1, Filters: conditions(who)},
		"count where who=7and when in0..255":                  {Kind: 1, Filters: conditions(who, when)},
		"total when":                                          {Kind: 2, Col: 1, Filters: conditions()},
		"total\nkind\twhere\rwhen in 0 .. 255 ":               {Kind: 2, Col: 2, Filters: conditions(when)},
		"moment who 1":                                        {Kind: 3, Col: 0, K: 1, Filters: conditions()},
		"moment value6where who= 7":                           {Kind: 3, Col: 3, K: 6, Filters: conditions(who)},
		"groups kind where who = 7 and who = 7":               {Kind: 4, Col: 2, Filters: conditions(who, who)},
		"distinct who where who=7and who=7and when in 0..255": {Kind: 5, Col: 0, Filters: conditions(who, who, when)},
		"smallest value 65536":                                {Kind: 6, Col: 3, K: 65536, Filters: conditions()},
		"smallest kind 00001 where when in 000..00255":        {Kind: 6, Col: 2, K: 1, Filters: conditions(when)},
		"pairs with":                                          {Kind: 7, Filters: [][]api.Cond{{}, {}}},
		"pairs where who = 7 with":                            {Kind: 7, Filters: [][]api.Cond{{who}, {}}},
		"pairs with where who = 7":                            {Kind: 7, Filters: [][]api.Cond{{}, {who}}},
		"pairs where who=7with where when in 0..255":          {Kind: 7, Filters: [][]api.Cond{{who}, {when}}},
		"count where who in 3..3 and when=0":                  {Kind: 1, Filters: conditions(api.Cond{Lo: 3, Hi: 3}, api.Cond{Col: 1})},
		"count where who=15 and kind=15":                      {Kind: 1, Filters: conditions(api.Cond{Lo: 15, Hi: 15}, api.Cond{Col: 2, Lo: 15, Hi: 15})},
		"count where value in 254..255 and kind in 14..15":    {Kind: 1, Filters: conditions(api.Cond{Col: 3, Lo: 254, Hi: 255}, api.Cond{Col: 2, Lo: 14, Hi: 15})},
	} {
		check(t, text, want, 0, api.OK)
	}
}

// M2: the first problem and its offset.
func TestParseErrors(t *testing.T) {
	for _, e := range []struct {
		text string
		at   int
		err  api.Errno
	}{
		{"", 0, api.ErrEnd}, {" \n ", 3, api.ErrEnd}, {"total", 5, api.ErrEnd}, {"total  ", 7, api.ErrEnd}, {"moment who", 10, api.ErrEnd},
		{"smallest who\t", 13, api.ErrEnd}, {"pairs", 5, api.ErrEnd}, {"pairs where who=1", 17, api.ErrEnd}, {"pairs with where", 16, api.ErrEnd},
		{"count where who", 15, api.ErrEnd}, {"count where who in", 18, api.ErrEnd}, {"count where who =", 17, api.ErrEnd},
		{"count where who in 1", 20, api.ErrEnd}, {"count where who in 1..", 22, api.ErrEnd}, {"count where who=1 and", 21, api.ErrEnd},
		{"Count", 0, api.ErrToken}, {"cOunt", 0, api.ErrToken}, {"counts", 0, api.ErrToken}, {"coun", 0, api.ErrToken}, {" count1", 6, api.ErrToken},
		{"where", 0, api.ErrToken}, {"1", 0, api.ErrToken}, {"=", 0, api.ErrToken}, {"..", 0, api.ErrToken}, {"count count", 6, api.ErrToken},
		{"count who", 6, api.ErrToken}, {"count 1", 6, api.ErrToken}, {"count with", 6, api.ErrToken}, {"count and", 6, api.ErrToken},
		{"total live", 6, api.ErrToken}, {"total 1", 6, api.ErrToken}, {"total where", 6, api.ErrToken}, {"total who 1", 10, api.ErrToken},
		{"total who = 1", 10, api.ErrToken}, {"moment 1", 7, api.ErrToken}, {"moment who where", 11, api.ErrToken}, {"moment who 1 1", 13, api.ErrToken},
		{"groups who who", 11, api.ErrToken}, {"smallest who =", 13, api.ErrToken}, {"pairs who", 6, api.ErrToken}, {"pairs with with", 11, api.ErrToken},
		{"pairs where kind=1 where kind=2", 19, api.ErrToken}, {"pairs where with", 12, api.ErrToken}, {"count where where", 12, api.ErrToken},
		{"count where who 1", 16, api.ErrToken}, {"count where who .. 1", 16, api.ErrToken}, {"count where who in ..1", 19, api.ErrToken},
		{"count where who in 1,2", 20, api.ErrToken}, {"count where who in 1 2", 21, api.ErrToken}, {"count where who in 1=2", 20, api.ErrToken},
		{"count where who in 1.2", 20, api.ErrToken}, {"count where who in 1...2", 22, api.ErrToken}, {"count where who in 1. .2", 20, api.ErrToken},
		{"count where who in 1..2.", 23, api.ErrToken}, {"count where who in 1..-2", 22, api.ErrToken}, {"count where who in 1.. who", 23, api.ErrToken},
		{"count where who==1", 16, api.ErrToken}, {"count where who=who", 16, api.ErrToken}, {"count where who=1..2", 17, api.ErrToken},
		{"count where who=1 or who=2", 18, api.ErrToken}, {"count where who=1 and and", 22, api.ErrToken}, {"count where who=1 with", 18, api.ErrToken},
		{"count where who=1 and who=1 and who=1 and who=1", 38, api.ErrToken}, {"pairs where who=1 and who=1 and who=1 and", 38, api.ErrToken},
		{"moment who 0", 11, api.ErrArg}, {"moment who 7", 11, api.ErrArg}, {"moment who 0007 $", 11, api.ErrArg}, {"smallest who 0", 13, api.ErrArg},
		{"smallest who 65537", 13, api.ErrArg}, {"smallest who 655360", 13, api.ErrArg}, {"smallest who 000 who", 13, api.ErrArg},
		{"count where who=16", 16, api.ErrArg}, {"count where when=256", 17, api.ErrArg}, {"count where kind=16", 17, api.ErrArg}, {"count where value=256", 18, api.ErrArg},
		{"count where who in 16", 19, api.ErrArg}, {"count where who in 16..2", 19, api.ErrArg}, {"count where who in 1..16", 22, api.ErrArg},
		{"count where when in 256..257", 20, api.ErrArg}, {"count where when in 9..8 and", 23, api.ErrArg}, {"count where kind in 1..0", 23, api.ErrArg},
		{"count where value in 255..254", 26, api.ErrArg}, {"count where value in 0..256", 24, api.ErrArg},
	} {
		check(t, e.text, api.Query{}, e.at, e.err)
	}
}

// M2: numbers have any number of digits.
func TestParseNumbers(t *testing.T) {
	zeros := strings.Repeat("0", 300)
	check(t, "smallest who "+zeros+"65536", api.Query{Kind: api.Smallest, K: 65536, Filters: conditions()}, 0, api.OK)
	check(t, "moment who "+zeros+"6", api.Query{Kind: api.Moment, K: 6, Filters: conditions()}, 0, api.OK)
	check(t, "count where who in "+zeros+".."+zeros[:60]+"9", api.Query{Kind: api.Count, Filters: conditions(api.Cond{Hi: 9})}, 0, api.OK)
	for _, digits := range []string{
		"4294967297", "9223372036854775807", "9223372036854775808", "9223372036854775809", "18446744073709551616", "18446744073709551617",
		"340282366920938463463374607431768211457", strings.Repeat("9", 350), "1" + strings.Repeat("0", 350), "1" + strings.Repeat("0", 349) + "1",
	} {
		check(t, "smallest who "+digits, api.Query{}, 13, api.ErrArg)
		check(t, "moment who "+digits, api.Query{}, 11, api.ErrArg)
		check(t, "count where who="+digits, api.Query{}, 16, api.ErrArg)
		check(t, "count where value in 0.."+digits, api.Query{}, 24, api.ErrArg)
	}
}

// M2: texts have at most 400 bytes, and this is checked first.
func TestParseLengths(t *testing.T) {
	for _, n := range []int{longest - 1, longest, longest + 1, longest + 2, 1000, 65536, 1 << 20} {
		want, err, endAt := api.Query{Kind: api.Count, Filters: conditions(api.Cond{Lo: 5, Hi: 5})}, api.OK, n
		if n > longest {
			want, err, endAt = api.Query{}, api.ErrBig, 0
		}
		check(t, "count where who=5"+strings.Repeat(" ", n-17), want, 0, err)
		check(t, strings.Repeat("\n", n-17)+"count where who=5", want, 0, err)
		check(t, "count where who="+strings.Repeat("0", n-17)+"5", want, 0, err)
		if err == api.OK {
			err = api.ErrEnd
		}
		check(t, strings.Repeat("\t", n), api.Query{}, endAt, err)
		if err != api.ErrBig {
			err = api.ErrToken
		}
		check(t, strings.Repeat("c", n), api.Query{}, 0, err)
		check(t, strings.Repeat("\x00", n), api.Query{}, 0, err)
	}
}

// M2: spaces, tabs, carriage returns and newlines are the only bytes that may stand between tokens.
func TestParseBytes(t *testing.T) {
	want := api.Query{Kind: api.Total, Col: 3, Filters: conditions()}
	for b := range 256 {
		sep := string([]byte{byte(b)})
		if strings.Contains(" \t\r\n", sep) {
			check(t, "total"+sep+"value", want, 0, api.OK)
			check(t, sep+"total value"+sep, want, 0, api.OK)
			continue
		}
		if b >= 'a' && b <= 'z' {
			check(t, "total"+sep+"value", api.Query{}, 0, api.ErrToken)
			check(t, "total value"+sep, api.Query{}, 6, api.ErrToken)
			continue
		}
		check(t, "total"+sep+"value", api.Query{}, 5, api.ErrToken)
		check(t, "total value"+sep, api.Query{}, 11, api.ErrToken)
		check(t, "total value "+sep+" where", api.Query{}, 12, api.ErrToken)
		check(t, sep+"total value", api.Query{}, 0, api.ErrToken)
	}
}

// formatted returns the canonical text of a query by its definition.
func formatted(q api.Query) string {
	l := []string{keywords[q.Kind-1]}
	if q.Kind > api.Count && q.Kind < api.Pairs {
		l = append(l, names[q.Col])
	}
	if q.Kind == api.Moment || q.Kind == api.Smallest {
		l = append(l, fmt.Sprint(q.K))
	}
	for i, f := range q.Filters {
		if i == 1 {
			l = append(l, "with")
		}
		for k, c := range f {
			l = append(l, []string{"where", "and", "and"}[k], names[c.Col], "in", fmt.Sprintf("%d..%d", c.Lo, c.Hi))
		}
	}
	return strings.Join(l, " ")
}

// M3: the canonical text of queries of all forms.
func TestFormat(t *testing.T) {
	for _, q := range queries() {
		if got, want := query.Format(q), formatted(q); got != want {
			t.Errorf("Format(%v) = %q, want %q", q, got, want)
		}
	}
	for text, want := range map[string]string{
		" count\n":                             "count",
		"moment value 02 where who=3":          "moment value 2 where who in 3..3",
		"smallest kind 65536where when=000":    "smallest kind 65536 where when in 0..0",
		"pairs with":                           "pairs with",
		"pairs with where who in 00 .. 010":    "pairs with where who in 0..10",
		"pairs where kind=1with where kind=2":  "pairs where kind in 1..1 with where kind in 2..2",
		"distinct who where who=1and value=99": "distinct who where who in 1..1 and value in 99..99",
	} {
		q, _, err := query.Parse(text)
		if got := query.Format(q); got != want || err != api.OK {
			t.Errorf("%q has the canonical text %q, %v, want %q", text, got, err, want)
		}
	}
}

// M3: each K is written as it is.
func TestFormatNumbers(t *testing.T) {
	for k := 1; k <= 65536; k++ {
		want := fmt.Sprintf("smallest kind %d", k)
		if got := query.Format(api.Query{Kind: api.Smallest, Col: 2, K: k, Filters: conditions()}); got != want {
			t.Fatalf("Format = %q, want %q", got, want)
		}
	}
	for value := range 256 {
		want := fmt.Sprintf("count where value in %d..255 and when in 0..%d", value, value)
		c, d := api.Cond{Col: 3, Lo: value, Hi: 255}, api.Cond{Col: 1, Hi: value}
		if got := query.Format(api.Query{Kind: api.Count, Filters: conditions(c, d)}); got != want {
			t.Fatalf("Format = %q, want %q", got, want)
		}
	}
}

// readings returns readings without a pattern, and those with the smallest and largest values.
func readings() []api.Reading {
	var l []api.Reading
	for i := range 16 {
		l = append(l, api.Reading{Who: i & 1 * 15, When: i >> 1 & 1 * 255, Kind: i >> 2 & 1 * 15, Value: i >> 3 & 1 * 255})
	}
	for next, i := generator(2), 0; i < 200; i++ {
		l = append(l, api.Reading{Who: next(16), When: next(256), Kind: next(16), Value: next(256)})
	}
	return l
}

// valueOf returns the value of a column of a reading.
func valueOf(r api.Reading, col int) int {
	return map[int]int{api.Who: r.Who, api.When: r.When, api.Kind: r.Kind, api.Value: r.Value}[col]
}

// M4: the values of a column that satisfy a condition on it are those from Lo to Hi, whatever the other columns are.
func TestMatchConditions(t *testing.T) {
	for col, limit := range limits {
		for value := range limit + 1 {
			for _, other := range []int{0, 5, 15} {
				fields := [4]int{other, other, other, other}
				fields[col] = value
				r := api.Reading{Who: fields[0], When: fields[1], Kind: fields[2], Value: fields[3]}
				for _, lo := range []int{0, 1, 2, value - 1, value, value + 1, limit - 1, limit} {
					for _, hi := range []int{0, 1, 2, value - 1, value, value + 1, limit - 1, limit} {
						if lo < 0 || lo > hi || hi > limit {
							continue
						}
						c := api.Cond{Col: col, Lo: lo, Hi: hi}
						if got := query.Match([]api.Cond{c}, r); got != (lo <= value && value <= hi) {
							t.Fatalf("Match(%v, %v) = %v", c, r, got)
						}
					}
				}
			}
		}
	}
}

// M4: every reading satisfies the empty filter.
func TestMatchOfNoConditions(t *testing.T) {
	for _, r := range readings() {
		if !query.Match(nil, r) || !query.Match([]api.Cond{}, r) {
			t.Errorf("%v does not satisfy the empty filter", r)
		}
	}
}
