package reading

import (
	"slices"
	"testing"

	"attestor/api"
)

// Readings are produced in order with their indices, retracted or not, as many as are taken.
func TestEntries(t *testing.T) {
	s := api.Stream{L: []api.Reading{{Who: 1}, {When: 2}, {Kind: 3}}, Gone: []bool{false, true, false}}
	want := []entry{{r: s.L[0], live: true}, {r: s.L[1]}, {r: s.L[2], live: true}}
	for taken := range 4 {
		var got []entry
		for i, e := range entries(s) {
			if i == taken {
				break
			}
			if i != len(got) {
				t.Errorf("reading %d has the index %d", len(got), i)
			}
			got = append(got, e)
		}
		if !slices.Equal(got, want[:taken]) {
			t.Errorf("the first %d readings are %v", taken, got)
		}
	}
}
