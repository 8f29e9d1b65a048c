package query

// class is the class of a token.
type class int

const (
	end     class = iota // no token, but the end of the text
	unknown              // no token, but a byte that does not start one
	word
	number
	dots
	equals
)

// token is a token. Only words and numbers have a text.
type token struct {
	class class
	text  string
}

// scanner reads the tokens of a text, of which the bytes before at are read.
type scanner struct {
	text string
	at   int
}

// space reports whether b may stand between tokens.
func space(b byte) bool { return b == ' ' || b == '\t' || b == '\r' || b == '\n' }

// letter reports whether words may contain b.
func letter(b byte) bool { return b >= 'a' && b <= 'z' }

// digit reports whether numbers may contain b.
func digit(b byte) bool { return b >= '0' && b <= '9' }

// skip reads the bytes up to the first one that does not belong to the given kind, and returns them.
func (s *scanner) skip(belongs func(byte) bool) string {
	start := s.at
	for s.at < len(s.text) && belongs(s.text[s.at]) {
		s.at++
	}
	return s.text[start:s.at]
}

// begins reports whether the rest of the text begins with a sign, which it reads in this case.
func (s *scanner) begins(sign string) bool {
	if len(s.text)-s.at < len(sign) || s.text[s.at:s.at+len(sign)] != sign {
		return false
	}
	s.at += len(sign)
	return true
}

// next reads a token and returns it with its offset. It stays where there is no token.
func (s *scanner) next() (token, int) {
	s.skip(space)
	at := s.at
	switch {
	case at == len(s.text):
		return token{class: end}, at
	case letter(s.text[at]):
		return token{class: word, text: s.skip(letter)}, at
	case digit(s.text[at]):
		return token{class: number, text: s.skip(digit)}, at
	case s.begins(".."):
		return token{class: dots}, at
	case s.begins("="):
		return token{class: equals}, at
	}
	return token{class: unknown}, at
}
