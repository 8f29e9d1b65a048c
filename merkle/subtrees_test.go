package merkle

import "testing"

// taken returns the first subtrees. An iterator that goes on after the last of them would panic.
func taken(most int, subtrees func(yield func(subtree) bool)) []subtree {
	var l []subtree
	for s := range subtrees {
		l = append(l, s)
		if len(l) == most {
			break
		}
	}
	return l
}

// H2, H5: the subtrees that an iterator produces may be read up to any of them.
func TestSubtreesStop(t *testing.T) {
	for n := 1; n <= 33; n++ {
		for i := range n {
			for _, subtrees := range []func(yield func(subtree) bool){closed(whole(n), []int{i}), closed(whole(n), nil), siblings(whole(n), i)} {
				all := taken(n, subtrees)
				for most := 1; most <= len(all); most++ {
					l := taken(most, subtrees)
					if len(l) != most || l[most-1] != all[most-1] {
						t.Errorf("%d leaves, leaf %d: the first %d are %v, of %v", n, i, most, l, all)
					}
				}
			}
		}
	}
}

// H2: the opened leaves and the maximal closed subtrees are all leaves, from left to right and each of them once.
func TestClosedSubtreesCover(t *testing.T) {
	for n := 1; n <= 12; n++ {
		for set := range 1 << n {
			var idx []int
			for i := range n {
				if set>>i&1 == 1 {
					idx = append(idx, i)
				}
			}
			next := 0
			skip := func() {
				for set>>next&1 == 1 {
					next++
				}
			}
			for s := range closed(whole(n), idx) {
				skip()
				if s.first != next || s.size < 1 {
					t.Fatalf("%d leaves, %v: %v, want a subtree that starts at %d", n, idx, s, next)
				}
				next += s.size
			}
			skip()
			if next != n {
				t.Fatalf("%d leaves, %v: the subtrees end at %d", n, idx, next)
			}
		}
	}
}

// H5: the siblings of a leaf are all other leaves.
func TestSiblingsCover(t *testing.T) {
	for n := 1; n <= 70; n++ {
		for i := range n {
			// They are met from the leaf upward, so that each of them is beside those before it.
			first, end := i, i+1
			for s := range siblings(whole(n), i) {
				switch {
				case s.first == end:
					end += s.size
				case s.first+s.size == first:
					first = s.first
				default:
					t.Fatalf("%d leaves, leaf %d: %v is not beside %d to %d", n, i, s, first, end)
				}
			}
			if first != 0 || end != n {
				t.Fatalf("%d leaves, leaf %d: the siblings end at %d and %d", n, i, first, end)
			}
		}
	}
}
