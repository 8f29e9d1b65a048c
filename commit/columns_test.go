package commit

import (
	"slices"
	"testing"
)

// Columns are produced in the order of the indices, as many as are taken.
func TestColumns(t *testing.T) {
	rows := [][]uint64{{1, 2, 3, 4}, {5, 6, 7, 8}}
	want := [][]uint64{{4, 8}, {1, 5}, {3, 7}}
	for taken := range 4 {
		var got [][]uint64
		for column := range columns(rows, []int{3, 0, 2}) {
			if len(got) == taken {
				break
			}
			got = append(got, column)
		}
		if !slices.EqualFunc(got, want[:taken], slices.Equal[[]uint64]) {
			t.Errorf("the first %d columns are %v", taken, got)
		}
	}
}
