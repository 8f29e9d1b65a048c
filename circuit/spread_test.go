package circuit

import (
	"slices"
	"sync"
	"testing"

	"attestor/api"
)

// The parts of the rows follow each other, from the first row to the last one.
func TestParts(t *testing.T) {
	for log := range api.MaxLog + 1 {
		rows := 1 << log
		parts := gather(rows, func(start int, end int) [2]int { return [2]int{start, end} })
		if len(parts) != min(rows, workers) || parts[0][0] != 0 || parts[len(parts)-1][1] != rows {
			t.Errorf("%d rows have the parts %v", rows, parts)
		}
		for i, part := range parts {
			if part[0] >= part[1] || i > 0 && part[0] != parts[i-1][1] {
				t.Errorf("%d rows have the parts %v", rows, parts)
			}
		}
	}
}

// The parts are worked on at the same time, and all are done at the end.
func TestSpread(t *testing.T) {
	for _, rows := range []int{1, 2, 4, 8, 16, 1024} {
		parts := min(rows, workers)
		done := make([]bool, parts)
		// No part goes on before each has begun, which would take forever if they were worked on one after another.
		var begun sync.WaitGroup
		begun.Add(parts)
		spread(rows, func(part int, start int, end int) {
			begun.Done()
			begun.Wait()
			done[part] = start == part*(rows/parts) && end-start == rows/parts
		})
		if slices.Contains(done, false) {
			t.Errorf("%d rows: the parts that are done are %v", rows, done)
		}
	}
}

// Rows are produced in order with their outputs, as many as are taken.
func TestOutputs(t *testing.T) {
	c := api.Circuit{Inputs: 2, Layers: [][]api.Gate{{{L: 0, R: 1, C: 1}, {L: 1, A: 1}, {D: 7}}}}
	cols := [][]uint64{{1, 2, 3, 4}, {5, 6, 7, 8}}
	want := [][]uint64{{12, 6, 7}, {21, 7, 7}, {32, 8, 7}}
	for taken := range 4 {
		var got [][]uint64
		for j, out := range outputs(c, cols, 1, 4) {
			if len(got) == taken {
				break
			}
			if j != len(got)+1 {
				t.Errorf("row %d has the index %d", len(got)+1, j)
			}
			got = append(got, slices.Clone(out))
		}
		if !slices.EqualFunc(got, want[:taken], slices.Equal[[]uint64]) {
			t.Errorf("the first %d rows have the outputs %v", taken, got)
		}
	}
}

// The first index is found, and no condition is examined after it.
func TestFirst(t *testing.T) {
	for n := range 6 {
		for want := range n + 2 {
			calls := 0
			got, found := first(n, func(i int) bool { calls++; return i >= want })
			if found != (want < n) || found && (got != want || calls != want+1) || !found && (got != 0 || calls != n) {
				t.Errorf("the first of %d indices from %d on is %d, %v, after %d calls", n, want, got, found, calls)
			}
		}
	}
}
