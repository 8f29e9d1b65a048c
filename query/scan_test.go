package query

import (
	"slices"
	"testing"
)

// The tokens of a text come in order with their offsets, and what is no token stays the next one.
func TestNext(t *testing.T) {
	type step struct {
		token token
		at    int
	}
	for text, want := range map[string][]step{
		"":            {{token{end, ""}, 0}, {token{end, ""}, 0}},
		" \t\r\n":     {{token{end, ""}, 4}, {token{end, ""}, 4}},
		"in 07..":     {{token{word, "in"}, 0}, {token{number, "07"}, 3}, {token{dots, ""}, 5}, {token{end, ""}, 7}, {token{end, ""}, 7}},
		"..=a9b":      {{token{dots, ""}, 0}, {token{equals, ""}, 2}, {token{word, "a"}, 3}, {token{number, "9"}, 4}, {token{word, "b"}, 5}},
		"= \n.= ":     {{token{equals, ""}, 0}, {token{unknown, ""}, 3}, {token{unknown, ""}, 3}, {token{unknown, ""}, 3}},
		"az`{ az":     {{token{word, "az"}, 0}, {token{unknown, ""}, 2}, {token{unknown, ""}, 2}},
		"1.":          {{token{number, "1"}, 0}, {token{unknown, ""}, 1}},
		".....":       {{token{dots, ""}, 0}, {token{dots, ""}, 2}, {token{unknown, ""}, 4}},
		"0/":          {{token{number, "0"}, 0}, {token{unknown, ""}, 1}},
		"9:":          {{token{number, "9"}, 0}, {token{unknown, ""}, 1}},
		"x\u00a0x":    {{token{word, "x"}, 0}, {token{unknown, ""}, 1}},
		"x\v\fx":      {{token{word, "x"}, 0}, {token{unknown, ""}, 1}},
		"count\x00":   {{token{word, "count"}, 0}, {token{unknown, ""}, 5}},
		"=\u0661=":    {{token{equals, ""}, 0}, {token{unknown, ""}, 1}},
		"who==\r\r\r": {{token{word, "who"}, 0}, {token{equals, ""}, 3}, {token{equals, ""}, 4}, {token{end, ""}, 8}},
	} {
		s := scanner{text: text}
		var got []step
		for range want {
			token, at := s.next()
			got = append(got, step{token, at})
		}
		if !slices.Equal(got, want) {
			t.Errorf("the tokens of %q are %v, want %v", text, got, want)
		}
	}
}
