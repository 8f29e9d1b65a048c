package merkle_test

import (
	"bytes"
	"math"
	"slices"
	"sync"
	"testing"

	"attestor/api"
	"attestor/merkle"
)

// P8.1: trees with the largest number of leaves are treated as all others.
func TestLargeTrees(t *testing.T) {
	for _, n := range []int{most - 1, most} {
		leaves := leavesOf(n)
		root := rootOf(leaves)
		spread := slices.DeleteFunc(upTo(n), func(i int) bool { return i%1021 != 7 })
		for _, idx := range [][]int{nil, {0}, {n - 1}, {0, 32767, 32768, n - 1}, spread, upTo(n)} {
			o, err := merkle.Open(leaves, idx)
			if err != api.OK {
				t.Errorf("%d leaves, %d opened: %v", n, len(idx), err)
			}
			if err := merkle.Verify(root, n, at(leaves, idx), o); err != api.OK {
				t.Errorf("%d leaves, %d opened: %v", n, len(idx), err)
			}
		}
		for _, i := range []int{0, 1, 32767, 32768, n - 2, n - 1} {
			path, err := merkle.Witness(leaves, i)
			p := api.Membership{Count: n, Index: i, B: leaves[i], Path: path}
			if err != api.OK || !merkle.Contains(peaksOf(leaves), p) {
				t.Errorf("leaf %d of %d: %v, or not contained", i, n, err)
			}
		}
	}
}

// P8.2: openings of any leaves are accepted.
func TestOpeningsAreAccepted(t *testing.T) {
	for _, n := range append(sizes(), 1000, 1025) {
		leaves := leavesOf(n)
		root, _ := merkle.Root(leaves)
		for _, idx := range selections(n) {
			o, err := merkle.Open(leaves, idx)
			if err != api.OK {
				t.Errorf("%d leaves, %v: Open: %v", n, idx, err)
			}
			if err := merkle.Verify(root, n, at(leaves, idx), o); err != api.OK {
				t.Errorf("%d leaves, %v: Verify: %v", n, idx, err)
			}
		}
	}
}

// P8.2: paths of all leaves are accepted, while the tree grows.
func TestPathsAreAccepted(t *testing.T) {
	leaves := leavesOf(140)
	var peaks []api.Digest
	for n := 1; n <= len(leaves); n++ {
		peaks = merkle.Push(peaks, n-1, leaves[n-1])
		for i := range n {
			path, err := merkle.Witness(leaves[:n], i)
			if err != api.OK || !merkle.Contains(peaks, api.Membership{Count: n, Index: i, B: leaves[i], Path: path}) {
				t.Errorf("leaf %d of %d: %v, or not contained", i, n, err)
			}
		}
	}
}

// contents returns what b may be changed to.
func contents(b []byte) [][]byte {
	l := [][]byte{append(slices.Clone(b), 0), append([]byte{0}, b...)}
	for i := range b {
		changed := slices.Clone(b)
		changed[i] ^= 1 << (i % 8)
		l = append(l, changed)
	}
	if len(b) > 0 {
		l = append(l, nil, b[1:], b[:len(b)-1])
	}
	return l
}

// changed returns d with other bytes.
func changed(d api.Digest) []api.Digest {
	var l []api.Digest
	for _, i := range []int{0, 1, 15, 16, 30, 31} {
		other := d
		other[i] ^= 1 << (i % 8)
		l = append(l, other)
	}
	return append(l, api.Digest{})
}

// with returns a copy of l with x in place of element i.
func with[T any](l []T, i int, x T) []T {
	c := slices.Clone(l)
	c[i] = x
	return c
}

// P8.3: an opening is not accepted with a changed leaf, digest or root.
func TestOpeningsBind(t *testing.T) {
	for _, n := range []int{1, 2, 3, 4, 5, 7, 12} {
		leaves := leavesOf(n)
		root := rootOf(leaves)
		for _, idx := range selections(n) {
			l := at(leaves, idx)
			o, _ := merkle.Open(leaves, idx)
			refuse := func(what string, root api.Digest, l api.Leaves, o api.Opening) {
				if err := merkle.Verify(root, n, l, o); err != api.ErrPath {
					t.Errorf("%d leaves, %v, other %s: %v", n, idx, what, err)
				}
			}
			for k := range idx {
				for _, b := range contents(l.B[k]) {
					refuse("contents", root, api.Leaves{Index: idx, B: with(l.B, k, b)}, o)
				}
			}
			for k, d := range o.Nodes {
				for _, other := range changed(d) {
					refuse("digest", root, l, api.Opening{Nodes: with(o.Nodes, k, other)})
				}
			}
			for _, other := range changed(root) {
				refuse("root", other, l, o)
			}
			if len(o.Nodes) > 1 {
				reversed := slices.Clone(o.Nodes)
				slices.Reverse(reversed)
				refuse("order of digests", root, l, api.Opening{Nodes: reversed})
			}
		}
	}
}

// P8.3: leaves are not accepted at the indices of others, whatever else is opened.
func TestOpeningsBindIndices(t *testing.T) {
	for n := 1; n <= 6; n++ {
		leaves := leavesOf(n)
		root := rootOf(leaves)
		for _, idx := range selections(n) {
			o, _ := merkle.Open(leaves, idx)
			for _, other := range selections(n) {
				if len(other) != len(idx) || slices.Equal(other, idx) {
					continue
				}
				there, _ := merkle.Open(leaves, other)
				l := api.Leaves{Index: other, B: at(leaves, idx).B}
				for _, nodes := range [][]api.Digest{o.Nodes, there.Nodes} {
					if err := merkle.Verify(root, n, l, api.Opening{Nodes: nodes}); err != api.ErrPath {
						t.Errorf("%d leaves, %v as %v: %v", n, idx, other, err)
					}
				}
			}
		}
	}
}

// P8.3: a path is not accepted with a changed leaf, digest or peak, nor for another leaf.
func TestPathsBind(t *testing.T) {
	for n := 1; n <= 17; n++ {
		leaves := leavesOf(n)
		for i := range n {
			peaks, p := member(leaves, i)
			refuse := func(what string, peaks []api.Digest, p api.Membership) {
				if merkle.Contains(peaks, p) {
					t.Errorf("leaf %d of %d: accepted with other %s", i, n, what)
				}
			}
			for _, b := range contents(p.B) {
				refuse("contents", peaks, api.Membership{Count: n, Index: i, B: b, Path: p.Path})
			}
			for k, d := range p.Path {
				for _, other := range changed(d) {
					refuse("digest", peaks, api.Membership{Count: n, Index: i, B: p.B, Path: with(p.Path, k, other)})
				}
			}
			for k, d := range peaks {
				for _, other := range changed(d) {
					refuse("peak", with(peaks, k, other), p)
				}
			}
			for j := range n {
				if j != i {
					refuse("index", peaks, api.Membership{Count: n, Index: j, B: p.B, Path: p.Path})
					refuse("index and path", peaks, api.Membership{Count: n, Index: j, B: p.B, Path: pathOf(leaves, j)})
				}
			}
		}
	}
}

// perfect holds in row k the digests of the groups of 2^k leaves, one after the other, as far as they are complete.
type perfect [][]api.Digest

// groups returns the digests of all groups of these leaves.
func groups(leaves [][]byte) perfect {
	var row []api.Digest
	for _, b := range leaves {
		row = append(row, leafDigest(b))
	}
	all := perfect{row}
	for len(row) > 1 {
		var next []api.Digest
		for i := 0; i+1 < len(row); i += 2 {
			next = append(next, pairDigest(row[i], row[i+1]))
		}
		all = append(all, next)
		row = next
	}
	return all
}

// root returns the root of n of the leaves, from the one with the index first on, which is a multiple of the size of the first group.
func (g perfect) root(first int, n int) api.Digest {
	for k, row := range g {
		if n == 1<<k {
			return row[first>>k]
		}
	}
	k := cut(n)
	return pairDigest(g.root(first, k), g.root(first+k, n-k))
}

// P8.4: the peaks of a tree that grows leaf by leaf have its root, for every number of leaves.
func TestGrowingTrees(t *testing.T) {
	leaves := leavesOf(most)
	all := groups(leaves)
	var peaks []api.Digest
	for n := range most {
		peaks = merkle.Push(peaks, n, leaves[n])
		if got, want := merkle.Bag(peaks), all.root(0, n+1); got != want {
			t.Fatalf("%d leaves: %x, want %x", n+1, got, want)
		}
		// Root takes long for a large tree, so that it is called for some of them.
		if n < 300 || n > most-3 {
			if root, err := merkle.Root(leaves[:n+1]); root != merkle.Bag(peaks) || err != api.OK {
				t.Fatalf("%d leaves: Root %x, %v, Bag %x", n+1, root, err, merkle.Bag(peaks))
			}
		}
	}
}

// P8.4: the peaks of no leaves have the zero digest, which Root returns with an error.
func TestTreeWithoutLeaves(t *testing.T) {
	root, err := merkle.Root(nil)
	if merkle.Bag(nil) != root || err != api.ErrArg {
		t.Errorf("Bag %x, Root %x, %v", merkle.Bag(nil), root, err)
	}
}

// P8.5: the root is the pair of the roots of the two parts.
func TestRootOfParts(t *testing.T) {
	leaves := leavesOf(600)
	for n := 2; n <= len(leaves); n++ {
		k := cut(n)
		root, _ := merkle.Root(leaves[:n])
		left, _ := merkle.Root(leaves[:k])
		right, _ := merkle.Root(leaves[k:n])
		if root != pairDigest(left, right) {
			t.Errorf("%d leaves: %x, parts %x and %x", n, root, left, right)
		}
	}
}

// sorted returns l in order.
func sorted(l []api.Digest) []api.Digest {
	return slices.SortedFunc(slices.Values(l), func(a api.Digest, b api.Digest) int { return bytes.Compare(a[:], b[:]) })
}

// P8.5: the opening of a single leaf has the digests of its path.
func TestOpeningOfOneLeaf(t *testing.T) {
	for n := 1; n <= 66; n++ {
		leaves := leavesOf(n)
		for i := range n {
			o, err := merkle.Open(leaves, []int{i})
			path, err2 := merkle.Witness(leaves, i)
			if !slices.Equal(sorted(o.Nodes), sorted(path)) || err != api.OK || err2 != api.OK {
				t.Errorf("leaf %d of %d: opening %x, %v, path %x, %v", i, n, o.Nodes, err, path, err2)
			}
		}
	}
}

// P8.5: the opening of all leaves has no digest.
func TestOpeningOfAllLeaves(t *testing.T) {
	for _, n := range append(sizes(), 1000, most) {
		if o, err := merkle.Open(leavesOf(n), upTo(n)); len(o.Nodes) != 0 || err != api.OK {
			t.Errorf("%d leaves: %d digests, %v", n, len(o.Nodes), err)
		}
	}
}

// P8.5: opening further leaves adds at most the digests of their paths.
func TestOpeningFurtherLeaves(t *testing.T) {
	for n := 1; n <= 8; n++ {
		leaves := leavesOf(n)
		length := make([]int, n)
		for i := range n {
			path, _ := merkle.Witness(leaves, i)
			length[i] = len(path)
		}
		opened := make([]int, 1<<n)
		for set := range opened {
			o, _ := merkle.Open(leaves, subset(set, n))
			opened[set] = len(o.Nodes)
		}
		for set, before := range opened {
			for further, after := range opened {
				most := before
				for _, i := range subset(further&^set, n) {
					most += length[i]
				}
				if set&further == set && after > most {
					t.Errorf("%d leaves: %d digests for %b, %d for %b", n, before, set, after, further)
				}
			}
		}
	}
}

// P1: every call returns, those too for whose arguments the chapter specifies no result.
func TestCallsReturn(t *testing.T) {
	odd := []int{math.MinInt, -7, -1, 0, 1, 2, 3, 5, 6, most, most + 1, math.MaxInt}
	digests := [][]api.Digest{nil, {{}}, {{1}, {2}}, make([]api.Digest, 20)}
	for _, leaves := range [][][]byte{nil, {nil}, leavesOf(2), leavesOf(6)} {
		merkle.Root(leaves)
		for _, i := range odd {
			merkle.Witness(leaves, i)
			for _, j := range odd {
				idx := []int{i, j}
				merkle.Open(leaves, idx)
				for _, nodes := range digests {
					merkle.Verify(api.Digest{}, i, api.Leaves{Index: idx[1:], B: leaves}, api.Opening{Nodes: nodes})
					merkle.Verify(api.Digest{}, len(leaves), api.Leaves{Index: idx, B: leaves}, api.Opening{Nodes: nodes})
				}
			}
		}
	}
	for _, peaks := range digests {
		merkle.Bag(peaks)
		for _, i := range odd {
			merkle.Push(peaks, i, nil)
			for _, j := range odd {
				for _, path := range digests {
					merkle.Contains(peaks, api.Membership{Count: i, Index: j, Path: path})
				}
			}
		}
	}
}

// outcome is what all functions return for some arguments.
type outcome struct {
	root, bag  api.Digest
	err        [4]api.Errno
	nodes      []api.Digest
	path, next []api.Digest
	member     bool
}

// outcomeOf calls all functions with the leaves of a tree, some of them opened, its peaks and the first of the opened leaves.
func outcomeOf(leaves [][]byte, idx []int, peaks []api.Digest, p api.Membership) outcome {
	var x outcome
	var o api.Opening
	x.root, x.err[0] = merkle.Root(leaves)
	o, x.err[1] = merkle.Open(leaves, idx)
	x.path, x.err[2] = merkle.Witness(leaves, idx[0])
	x.err[3] = merkle.Verify(x.root, len(leaves), at(leaves, idx), o)
	x.nodes, x.bag, x.next = o.Nodes, merkle.Bag(peaks), merkle.Push(peaks, len(leaves), p.B)
	x.member = merkle.Contains(peaks, p)
	return x
}

// equal reports whether two outcomes are equal.
func (x outcome) equal(y outcome) bool {
	return x.root == y.root && x.bag == y.bag && x.err == y.err && x.member == y.member &&
		slices.Equal(x.nodes, y.nodes) && slices.Equal(x.path, y.path) && slices.Equal(x.next, y.next)
}

// P2: equal arguments have equal results, whatever was called before and is called at the same time.
func TestResultsRepeat(t *testing.T) {
	call := func(n int) outcome {
		leaves := leavesOf(n)
		peaks, p := member(leaves, n/2)
		return outcomeOf(leaves, upTo(n)[n/2:], peaks, p)
	}
	var first []outcome
	for n := 1; n <= 40; n++ {
		first = append(first, call(n))
	}
	var wait sync.WaitGroup
	for range 4 {
		wait.Go(func() {
			for i, want := range slices.Backward(first) {
				if !call(i + 1).equal(want) {
					t.Errorf("%d leaves have other results", i+1)
				}
			}
		})
	}
	wait.Wait()
}

// spare returns a copy of l with capacity behind it, and the memory that it lies in.
func spare[T any](l []T, behind T) ([]T, []T) {
	memory := append(slices.Clone(l), slices.Repeat([]T{behind}, 5)...)
	return memory[:len(l)], memory
}

// P2: arguments and the memory behind them stay as they are, and no result is kept.
func TestArgumentsStay(t *testing.T) {
	for n := 1; n <= 20; n++ {
		leaves, idx := leavesOf(n), upTo(n)[n/2:]
		peaks, p := member(leaves, n/2)
		leaves2, memory := spare(leaves, []byte("behind"))
		for i, b := range leaves {
			leaves2[i] = slices.Clone(b)
		}
		idx2, memory2 := spare(idx, -1)
		peaks2, memory3 := spare(peaks, api.Digest{1})
		path2, memory4 := spare(p.Path, api.Digest{2})
		x := outcomeOf(leaves2, idx2, peaks2, api.Membership{Count: n, Index: n / 2, B: leaves2[n/2], Path: path2})
		same := slices.EqualFunc(memory, append(leavesOf(n), slices.Repeat([][]byte{[]byte("behind")}, 5)...), bytes.Equal) &&
			slices.Equal(memory2, append(slices.Clone(idx), -1, -1, -1, -1, -1)) &&
			slices.Equal(memory3, append(slices.Clone(peaks), slices.Repeat([]api.Digest{{1}}, 5)...)) &&
			slices.Equal(memory4, append(slices.Clone(p.Path), slices.Repeat([]api.Digest{{2}}, 5)...))
		if !same {
			t.Errorf("%d leaves: an argument or the memory behind it was modified", n)
		}
		clear(x.nodes)
		clear(x.path)
		clear(x.next)
		if !slices.Equal(peaks2, peaks) || !slices.Equal(path2, p.Path) {
			t.Errorf("%d leaves: a result lies in the memory of an argument", n)
		}
		if !outcomeOf(leaves, idx, peaks, p).equal(outcomeOf(leaves2, idx2, peaks2, p)) {
			t.Errorf("%d leaves: a result was kept", n)
		}
	}
}
