package transcript

import (
	"slices"
	"testing"

	"attestor/api"
)

// J5: there are 4 candidates for each of 4096 hash outputs, and no more.
func TestCandidatesEnd(t *testing.T) {
	start := New("candidates")
	n := uint64(0)
	for after, i := range candidates(start, "", 10) {
		n++
		if want := (api.Transcript{State: start.State, Count: (n + 3) / 4}); after != want {
			t.Fatalf("candidate %d belongs to the transcript %v, want %v", n, after, want)
		}
		if i < 0 || i >= 10 {
			t.Fatalf("candidate %d is %d", n, i)
		}
	}
	if n != 4*4096 {
		t.Errorf("%d candidates", n)
	}
}

// J5: an iteration over the candidates can be left and repeated.
func TestCandidatesRepeat(t *testing.T) {
	all := candidates(New("candidates"), "label", 1000)
	var first []int
	for _, i := range all {
		first = append(first, i)
	}
	for n := 1; n < 10; n++ {
		var l []int
		for _, i := range all {
			l = append(l, i)
			if len(l) == n {
				break
			}
		}
		if !slices.Equal(l, first[:n]) {
			t.Errorf("%d candidates: %v, want %v", n, l, first[:n])
		}
	}
}

// known returns an iterator over these candidates, two for each hash output.
func known(t api.Transcript, l []int) func(yield func(api.Transcript, int) bool) {
	return func(yield func(api.Transcript, int) bool) {
		for k, i := range l {
			if !yield(api.Transcript{State: t.State, Count: t.Count + 1 + uint64(k/2)}, i) {
				return
			}
		}
	}
}

// J5: if candidates are missing after the last hash output, the least indices that have not been found are added. No
// known transcript leads to this, so that only other candidates can show it.
func TestMissingCandidates(t *testing.T) {
	for _, x := range []struct {
		candidates []int
		n          int
		count      uint64
		want       []int
	}{
		{[]int{7}, 1, 1, []int{7}}, {[]int{9, 4, 9, 4, 1, 2}, 3, 3, []int{1, 4, 9}}, {[]int{5, 3, 1}, 2, 1, []int{3, 5}},
		{nil, 3, 0, []int{0, 1, 2}}, {[]int{1, 1, 1, 1}, 2, 2, []int{0, 1}}, {[]int{0, 0, 0}, 2, 2, []int{0, 1}},
		{[]int{3, 0, 2, 2, 0}, 5, 3, []int{0, 1, 2, 3, 4}}, {[]int{65535, 2, 0, 0}, 5, 2, []int{0, 1, 2, 3, 65535}},
	} {
		start := api.Transcript{State: New("known").State, Count: 10}
		after, got := pick(start, known(start, x.candidates), x.n)
		if want := (api.Transcript{State: start.State, Count: 10 + x.count}); after != want || !slices.Equal(got, x.want) {
			t.Errorf("%d of the candidates %v: %v, %v, want %v", x.n, x.candidates, got, after, x.want)
		}
	}
}
