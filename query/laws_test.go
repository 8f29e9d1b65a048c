package query_test

import (
	"math/big"
	"regexp"
	"slices"
	"strings"
	"sync"
	"testing"

	"attestor/api"
	"attestor/query"
)

// A sentence is a sequence of tokens, each followed by a space, in which COL stands for every name of a column
// and NUM for every number.

// filterSentences returns the sentences of all filters.
func filterSentences() []string {
	l := []string{""}
	for i, first := 0, 0; i < 3; i++ {
		last := len(l)
		for _, s := range l[first:last] {
			word := "and "
			if s == "" {
				word = "where "
			}
			l = append(l, s+word+"COL in NUM .. NUM ", s+word+"COL = NUM ")
		}
		first = last
	}
	return l
}

// sentences returns the sentences of all queries.
func sentences() []string {
	var l []string
	for _, f := range filterSentences() {
		for _, s := range []string{"count ", "total COL ", "moment COL NUM ", "groups COL ", "distinct COL ", "smallest COL NUM "} {
			l = append(l, s+f)
		}
		for _, second := range filterSentences() {
			l = append(l, "pairs "+f+"with "+second)
		}
	}
	return l
}

// reference parses texts by looking up what was read in the list of all beginnings of sentences.
type reference struct {
	whole, begun map[string]bool
	tokens       *regexp.Regexp
}

func newReference() reference {
	r := reference{whole: map[string]bool{}, begun: map[string]bool{}, tokens: regexp.MustCompile(`[a-z]+|[0-9]+|\.\.|=|[^ \t\r\n]`)}
	for _, s := range sentences() {
		r.whole[s] = true
		for i := range s {
			r.begun[s[:i+1]] = true
		}
	}
	return r
}

// standsFor returns what stands for a token in a sentence.
func standsFor(token string) string {
	if slices.Contains(names, token) {
		return "COL "
	}
	if token[0] >= '0' && token[0] <= '9' {
		return "NUM "
	}
	return token + " "
}

// rangeOf returns the range of the number that follows some tokens.
func rangeOf(before []string) (int, int) {
	l := slices.Clone(before)
	switch last := l[len(l)-1]; last {
	case "=", "in":
		return 0, limits[slices.Index(names, l[len(l)-2])]
	case "..":
		lo, _ := new(big.Int).SetString(l[len(l)-2], 10)
		return int(lo.Int64()), limits[slices.Index(names, l[len(l)-4])]
	}
	if l[0] == "moment" {
		return 1, 6
	}
	return 1, 65536
}

// problem returns the offset of the first problem in a text, and the error.
func (r reference) problem(text string) (int, api.Errno) {
	if len(text) > longest {
		return 0, api.ErrBig
	}
	var before []string
	sentence := ""
	for _, place := range r.tokens.FindAllStringIndex(text, -1) {
		token := text[place[0]:place[1]]
		if sentence += standsFor(token); !r.begun[sentence] {
			return place[0], api.ErrToken
		}
		if strings.HasSuffix(sentence, "NUM ") {
			lo, hi := rangeOf(before)
			n, _ := new(big.Int).SetString(token, 10)
			if n.Cmp(big.NewInt(int64(lo))) < 0 || n.Cmp(big.NewInt(int64(hi))) > 0 {
				return place[0], api.ErrArg
			}
		}
		before = append(before, token)
	}
	if !r.whole[sentence] {
		return len(text), api.ErrEnd
	}
	return 0, api.OK
}

// tokensOf returns the tokens of a text, with conditions written out.
func (r reference) tokensOf(text string) []string {
	var l []string
	for _, token := range r.tokens.FindAllString(text, -1) {
		if n := len(l); n > 0 && l[n-1] == "=" {
			l = append(l[:n-1], "in", token, "..", token)
		} else {
			l = append(l, token)
		}
	}
	return l
}

// checkText checks what Parse returns for a text, and that it is the query of the text.
func (r reference) checkText(t *testing.T, text string) api.Errno {
	t.Helper()
	wantAt, wantErr := r.problem(text)
	q, at, err := query.Parse(text)
	if at != wantAt || err != wantErr {
		t.Fatalf("Parse(%q) = %v, %d, %d, want %d, %d", text, q, at, err, wantAt, wantErr)
	}
	if err != api.OK {
		if !isZero(q) {
			t.Fatalf("Parse(%q) = %v with the error %d", text, q, err)
		}
		return err
	}
	tokens := r.tokensOf(text)
	for i, token := range tokens {
		if standsFor(token) == "NUM " {
			n, _ := new(big.Int).SetString(token, 10)
			tokens[i] = n.String()
		}
	}
	canonical := query.Format(q)
	if !query.Valid(q) || !slices.Equal(r.tokensOf(canonical), tokens) {
		t.Fatalf("Parse(%q) = %v, with the text %q", text, q, canonical)
	}
	return err
}

// vocabulary are all words of the grammar, and other tokens.
var vocabulary = []string{
	"count", "total", "moment", "groups", "distinct", "smallest", "pairs", "where", "and", "with", "in", "who", "when", "kind", "value",
	"=", "..", ".", "0", "1", "6", "7", "015", "16", "0255", "256", "65536", "65537", "99999999999999999999", "live", "cou", "wherewho", "$", "\x80", "é", "\x00", "W", "-1",
}

// P13.1: all texts of up to three tokens.
func TestShortTexts(t *testing.T) {
	r := newReference()
	for _, a := range vocabulary {
		r.checkText(t, a)
		for _, b := range vocabulary {
			r.checkText(t, a+b)
			for _, c := range vocabulary {
				r.checkText(t, a+" "+b+"\t"+c)
			}
		}
	}
}

// sample returns a text for a sentence.
func sample(sentence string, next func(int) int) string {
	b := new(strings.Builder)
	for _, token := range strings.Fields(sentence) {
		switch token {
		case "COL":
			token = names[next(4)]
		case "NUM":
			token = vocabulary[18+next(5)]
		}
		b.WriteString(token + strings.Repeat(" ", 1+next(2)))
	}
	return b.String()
}

// P13.1: texts of all sentences, their beginnings, and texts that differ from them in one token.
func TestSentences(t *testing.T) {
	r := newReference()
	next := generator(3)
	count := map[api.Errno]int{}
	for _, sentence := range sentences() {
		for range 4 {
			text := sample(sentence, next)
			count[r.checkText(t, text)]++
			places := r.tokens.FindAllStringIndex(text, -1)
			for _, place := range places {
				count[r.checkText(t, text[:place[0]])]++
				count[r.checkText(t, text[:place[1]])]++
				count[r.checkText(t, text[:place[0]]+text[place[1]:])]++
				for range 4 {
					other := vocabulary[next(len(vocabulary))]
					count[r.checkText(t, text[:place[0]]+other+text[place[1]:])]++
					count[r.checkText(t, text[:place[0]]+other+" "+text[place[0]:])]++
				}
			}
		}
	}
	for _, err := range []api.Errno{api.OK, api.ErrArg, api.ErrToken, api.ErrEnd} {
		if count[err] < 1000 {
			t.Errorf("only %d texts have the result %d", count[err], err)
		}
	}
}

// P13.1: texts with single bytes that were changed, inserted and removed.
func TestChangedBytes(t *testing.T) {
	r := newReference()
	next := generator(4)
	for i, q := range queries() {
		text := query.Format(q)
		for range 1 + i%3 {
			k, other := next(len(text)), string([]byte{byte(next(256))})
			if next(2) == 0 {
				other = string("0123456789.= acehimnouvwt"[next(25)])
			}
			r.checkText(t, text[:k]+other+text[k+1:])
			r.checkText(t, text[:k]+other+text[k:])
			r.checkText(t, text[:k]+text[k+1:])
		}
	}
}

// P13.2: every valid query comes back from its canonical text.
func TestQueriesComeBack(t *testing.T) {
	l := queries()
	for next, i := generator(5), 0; i < 20000; i++ {
		l = append(l, randomQuery(next))
	}
	for _, q := range l {
		check(t, query.Format(q), q, 0, api.OK)
	}
	for k := 1; k <= 65536; k++ {
		q := api.Query{Kind: api.Smallest, Col: k % 4, K: k, Filters: conditions()}
		check(t, query.Format(q), q, 0, api.OK)
	}
}

// P13.2: no canonical text is longer than a text may be, since the filters that take most bytes fit.
func TestLongestText(t *testing.T) {
	l := slices.Repeat([]api.Cond{{Col: 3, Lo: 100, Hi: 255}}, 3)
	q := api.Query{Kind: api.Pairs, Filters: [][]api.Cond{l, l}}
	if text := query.Format(q); len(text) != 146 {
		t.Errorf("%q has %d bytes", text, len(text))
	}
	check(t, query.Format(q), q, 0, api.OK)
}

// P13.2: the canonical text of a query is its own canonical text, and no other query has it.
func TestCanonicalTexts(t *testing.T) {
	texts := map[string]api.Query{}
	for _, q := range queries() {
		text := query.Format(q)
		if other, found := texts[text]; found && !same(q, other) {
			t.Errorf("%v and %v have the text %q", q, other, text)
		}
		texts[text] = q
		back, _, _ := query.Parse(text)
		if again := query.Format(back); again != text {
			t.Errorf("%q has the canonical text %q", text, again)
		}
	}
}

// spaced returns a text with white space between its tokens, and the offsets that those of text then have.
func (r reference) spaced(text string, next func(int) int) (string, map[int]int) {
	spaces := func() string {
		b := new(strings.Builder)
		for range 1 + next(4) {
			b.WriteByte(" \t\r\n"[next(4)])
		}
		return b.String()
	}
	b := new(strings.Builder)
	moved := map[int]int{}
	for _, place := range r.tokens.FindAllStringIndex(text, -1) {
		b.WriteString(spaces())
		moved[place[0]] = b.Len()
		b.WriteString(text[place[0]:place[1]])
	}
	b.WriteString(spaces())
	moved[len(text)] = b.Len()
	return b.String(), moved
}

// P13.3: white space between tokens changes neither the query nor the error, and its offset remains that of the token.
func TestWhiteSpace(t *testing.T) {
	r := newReference()
	next := generator(6)
	texts := []string{"", "count where", "total value where who in 3..2", "count where who in 1.2", "moment who 7", "pairs where who=1"}
	for _, sentence := range sentences() {
		text := sample(sentence, next)
		texts = append(texts, text, text[:next(len(text))], text+"with")
	}
	for _, text := range texts {
		want, at, err := query.Parse(text)
		if at < 0 || at > len(text) || err == api.OK && at != 0 {
			t.Errorf("Parse(%q) returns the offset %d", text, at)
		}
		spaced, moved := r.spaced(text, next)
		if err != api.OK {
			at = moved[at]
		}
		check(t, spaced, want, at, err)
	}
}

// P13.3: the space between two tokens may be missing, unless both are words or both are numbers.
func TestNoSpace(t *testing.T) {
	r := newReference()
	word := func(token string) bool { return token[0] >= 'a' && token[0] <= 'z' }
	for _, q := range queries() {
		text, last := "", "="
		for _, token := range r.tokens.FindAllString(query.Format(q), -1) {
			if word(last) && word(token) {
				text += " "
			}
			text, last = text+token, token
		}
		check(t, text, q, 0, api.OK)
	}
}

// P13.4: a reading satisfies a filter if it satisfies each condition, in any order.
func TestFiltersAreConjunctions(t *testing.T) {
	next := generator(7)
	l := filters()
	for range 300 {
		l = append(l, randomFilter(next))
	}
	for _, f := range l {
		reversed := slices.Clone(f)
		slices.Reverse(reversed)
		for _, r := range readings() {
			want := true
			for _, c := range f {
				one := query.Match([]api.Cond{c}, r)
				if value := valueOf(r, c.Col); one != (c.Lo <= value && value <= c.Hi) {
					t.Fatalf("Match(%v, %v) = %v", c, r, one)
				}
				want = want && one
			}
			if query.Match(f, r) != want || query.Match(reversed, r) != want {
				t.Fatalf("Match(%v, %v) is not %v", f, r, want)
			}
		}
	}
}

// P13.4: no reading satisfies a filter that got another condition or a smaller range unless it did so before.
func TestFiltersShrink(t *testing.T) {
	next := generator(8)
	for range 2000 {
		f := randomFilter(next)
		var stricter [][]api.Cond
		if len(f) < 3 {
			stricter = append(stricter, slices.Insert(slices.Clone(f), next(len(f)+1), randomCond(next)))
		}
		for i, c := range f {
			smaller := slices.Clone(f)
			smaller[i].Lo += next(c.Hi - c.Lo + 1)
			smaller[i].Hi -= next(c.Hi - smaller[i].Lo + 1)
			stricter = append(stricter, smaller)
		}
		for _, r := range readings() {
			for _, g := range stricter {
				if query.Match(g, r) && !query.Match(f, r) {
					t.Fatalf("%v satisfies %v, but not %v", r, g, f)
				}
			}
		}
	}
}

// outcome is what all functions return for some arguments.
type outcome struct {
	valid, match bool
	text         string
	q            api.Query
	at           int
	err          api.Errno
}

// outcomeOf calls all functions. Match takes the first filter of q.
func outcomeOf(q api.Query, r api.Reading, text string) outcome {
	x := outcome{valid: query.Valid(q), text: query.Format(q)}
	if len(q.Filters) > 0 {
		x.match = query.Match(q.Filters[0], r)
	}
	x.q, x.at, x.err = query.Parse(text)
	return x
}

// equal reports whether two outcomes are equal.
func (x outcome) equal(y outcome) bool {
	return x.valid == y.valid && x.match == y.match && x.text == y.text && same(x.q, y.q) && x.at == y.at && x.err == y.err
}

// P1: every call returns, also for queries, filters and readings that are not valid, and for texts that are none.
func TestCallsReturn(t *testing.T) {
	next := generator(9)
	pick := func() int { return odd[next(len(odd))] }
	for range 50000 {
		q := api.Query{Kind: pick(), Col: pick(), K: pick(), Filters: make([][]api.Cond, next(5))}
		if next(2) == 0 {
			q = randomQuery(next)
		}
		for i := range q.Filters {
			for range next(6) {
				q.Filters[i] = append(q.Filters[i], api.Cond{Col: pick(), Lo: pick(), Hi: pick()})
			}
		}
		text := make([]byte, next(30))
		for i := range text {
			text[i] = byte(next(256))
		}
		x := outcomeOf(q, api.Reading{Who: pick(), When: pick(), Kind: pick(), Value: pick()}, string(text))
		if x.err != api.OK && !isZero(x.q) || x.err == api.OK && x.at != 0 || x.at < 0 || x.at > len(text) {
			t.Errorf("Parse(%q) = %v, %d, %d", text, x.q, x.at, x.err)
		}
	}
}

// P2: equal arguments have equal results, whatever was called before and is called at the same time.
func TestResultsRepeat(t *testing.T) {
	l, readings := queries(), readings()
	text := func(k int) string {
		s := formatted(l[k])
		return s[:len(s)-k%3] + []string{"", " and", "$"}[k%7%3]
	}
	call := func(k int) outcome { return outcomeOf(l[k], readings[k%len(readings)], text(k)) }
	var first []outcome
	for k := range l {
		first = append(first, call(k))
	}
	var wait sync.WaitGroup
	for range 4 {
		wait.Go(func() {
			for k, want := range slices.Backward(first) {
				if !call(k).equal(want) {
					t.Errorf("%v and %q have other results", l[k], text(k))
				}
			}
		})
	}
	wait.Wait()
}

// The document's rules: nil and empty slices are interchangeable.
func TestEmptySlices(t *testing.T) {
	r := readings()[3]
	for _, q := range queries() {
		if !slices.ContainsFunc(q.Filters, func(l []api.Cond) bool { return len(l) == 0 }) {
			continue
		}
		none, empty := q, q
		none.Filters, empty.Filters = nil, nil
		for _, l := range q.Filters {
			if len(l) > 0 {
				none.Filters, empty.Filters = append(none.Filters, l), append(empty.Filters, l)
			} else {
				none.Filters, empty.Filters = append(none.Filters, nil), append(empty.Filters, []api.Cond{})
			}
		}
		if x := outcomeOf(none, r, "count"); !x.equal(outcomeOf(empty, r, "count")) || !x.valid {
			t.Errorf("%v: other results for an empty filter", q)
		}
	}
	if query.Valid(api.Query{Kind: api.Count, Filters: [][]api.Cond{}}) || query.Valid(api.Query{Kind: api.Count}) {
		t.Error("a query without filters is valid")
	}
}

// spare returns a copy of l with capacity behind it, and the memory that it lies in.
func spare[T any](l []T, behind T) ([]T, []T) {
	memory := append(slices.Clone(l), slices.Repeat([]T{behind}, 5)...)
	return memory[:len(l)], memory
}

// P2: arguments and the memory behind them stay as they are.
func TestArgumentsStay(t *testing.T) {
	behind := api.Cond{Col: 77, Lo: 78, Hi: 79}
	for _, q := range queries() {
		given := q
		var filters, conds, wants [][]api.Cond
		for _, l := range q.Filters {
			l, memory := spare(l, behind)
			filters, conds, wants = append(filters, l), append(conds, memory), append(wants, slices.Clone(memory))
		}
		var memory [][]api.Cond
		given.Filters, memory = spare(filters, []api.Cond{behind})
		x := outcomeOf(given, readings()[5], formatted(q))
		if !x.equal(outcomeOf(q, readings()[5], formatted(q))) {
			t.Errorf("the results of %v depend on what lies behind it", q)
		}
		if !same(given, q) || !slices.EqualFunc(conds, wants, slices.Equal[[]api.Cond]) || len(memory[len(filters)]) != 1 || memory[len(filters)][0] != behind {
			t.Errorf("%v was modified", q)
		}
	}
}

// P2: no two filters of a query share memory, nor do two results.
func TestResultsAreSeparate(t *testing.T) {
	for _, q := range queries() {
		text := formatted(q)
		first, _, _ := query.Parse(text)
		second, _, _ := query.Parse(text)
		for i, l := range first.Filters {
			for k := range l[:cap(l)] {
				l[:cap(l)][k] = api.Cond{Col: 80}
			}
			for k, other := range first.Filters[i+1:] {
				if !slices.Equal(other, q.Filters[i+1+k]) {
					t.Errorf("%q: two filters share memory", text)
				}
			}
		}
		clear(first.Filters[:cap(first.Filters)])
		if !same(second, q) {
			t.Errorf("%q: two results share memory", text)
		}
	}
}
