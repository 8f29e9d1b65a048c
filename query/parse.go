package query

import "attestor/api"

// tooLarge is larger than every number that a query may contain.
const tooLarge = api.MaxRows + 1

// parser reads a query. Token is the next token, at its offset; every problem is one of the next token, which stays.
type parser struct {
	read  func() (token, int)
	token token
	at    int
}

// numberOf returns the number with the given digits, or tooLarge instead of larger ones, which may not fit in an int.
func numberOf(digits string) int {
	n := 0
	for i := range len(digits) {
		n = min(10*n+int(digits[i]-'0'), tooLarge)
	}
	return n
}

// advance reads the token after the next one.
func (p *parser) advance() { p.token, p.at = p.read() }

// refuse returns the error for a next token that the grammar does not allow.
func (p *parser) refuse() api.Errno {
	if p.token == (token{class: end}) {
		return api.ErrEnd
	}
	return api.ErrToken
}

// accept reports whether the next token is t, and reads on in this case.
func (p *parser) accept(t token) bool {
	if p.token != t {
		return false
	}
	p.advance()
	return true
}

// expect reads t.
func (p *parser) expect(t token) api.Errno {
	if !p.accept(t) {
		return p.refuse()
	}
	return api.OK
}

// number reads a number from lo to hi.
func (p *parser) number(lo int, hi int) (int, api.Errno) {
	if p.token.class != number {
		return 0, p.refuse()
	}
	n := numberOf(p.token.text)
	if n < lo || n > hi {
		return 0, api.ErrArg
	}
	p.advance()
	return n, api.OK
}

// column reads the name of a column and returns its number.
func (p *parser) column() (int, api.Errno) {
	for i, c := range columns {
		if p.accept(token{class: word, text: c.name}) {
			return i, api.OK
		}
	}
	return 0, p.refuse()
}

// kind reads the keyword of a kind of queries.
func (p *parser) kind() (int, api.Errno) {
	known := forms()
	for kind := api.Count; kind <= api.Pairs; kind++ {
		if p.accept(token{class: word, text: known[kind].keyword}) {
			return kind, api.OK
		}
	}
	return 0, p.refuse()
}

// interval reads two numbers of a column, of which the second is not less than the first.
func (p *parser) interval(col int) (api.Cond, api.Errno) {
	lo, err := p.number(0, columns[col].max)
	if err != api.OK {
		return api.Cond{}, err
	}
	if err := p.expect(token{class: dots}); err != api.OK {
		return api.Cond{}, err
	}
	hi, err := p.number(lo, columns[col].max)
	if err != api.OK {
		return api.Cond{}, err
	}
	return api.Cond{Col: col, Lo: lo, Hi: hi}, api.OK
}

// single reads one number of a column.
func (p *parser) single(col int) (api.Cond, api.Errno) {
	n, err := p.number(0, columns[col].max)
	if err != api.OK {
		return api.Cond{}, err
	}
	return api.Cond{Col: col, Lo: n, Hi: n}, api.OK
}

// condition reads a condition.
func (p *parser) condition() (api.Cond, api.Errno) {
	col, err := p.column()
	if err != api.OK {
		return api.Cond{}, err
	}
	if p.accept(token{class: equals}) {
		return p.single(col)
	}
	if err := p.expect(token{class: word, text: "in"}); err != api.OK {
		return api.Cond{}, err
	}
	return p.interval(col)
}

// filter reads a filter, which may be empty.
func (p *parser) filter() ([]api.Cond, api.Errno) {
	l := []api.Cond{}
	before := token{class: word, text: "where"}
	for len(l) < maxConds && p.accept(before) {
		c, err := p.condition()
		if err != api.OK {
			return nil, err
		}
		l = append(l, c)
		before.text = "and"
	}
	return l, api.OK
}

// filters reads the given number of filters.
func (p *parser) filters(count int) ([][]api.Cond, api.Errno) {
	var filters [][]api.Cond
	for i := range count {
		if i > 0 {
			if err := p.expect(token{class: word, text: "with"}); err != api.OK {
				return nil, err
			}
		}
		l, err := p.filter()
		if err != api.OK {
			return nil, err
		}
		filters = append(filters, l)
	}
	return filters, api.OK
}

// query reads a query, after which the text ends.
func (p *parser) query() (api.Query, api.Errno) {
	var q api.Query
	var err api.Errno
	if q.Kind, err = p.kind(); err != api.OK {
		return api.Query{}, err
	}
	f := forms()[q.Kind]
	if f.hasColumn {
		if q.Col, err = p.column(); err != api.OK {
			return api.Query{}, err
		}
	}
	if f.maxK > 0 {
		if q.K, err = p.number(1, f.maxK); err != api.OK {
			return api.Query{}, err
		}
	}
	if q.Filters, err = p.filters(f.filters); err != api.OK {
		return api.Query{}, err
	}
	return q, p.expect(token{class: end})
}
