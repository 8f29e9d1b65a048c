package merkle_test

import (
	"bytes"
	reference "crypto/sha256"
	"encoding/hex"
	"math"
	"math/bits"
	"slices"
	"testing"

	"attestor/api"
	"attestor/merkle"
)

// most is the largest number of leaves of a tree.
const most = 65536

// leafDigest returns the digest of a leaf, by the standard library.
func leafDigest(b []byte) api.Digest { return reference.Sum256(slices.Concat([]byte{0}, b)) }

// pairDigest returns the digest of an inner node, by the standard library.
func pairDigest(a api.Digest, b api.Digest) api.Digest {
	return reference.Sum256(slices.Concat([]byte{1}, a[:], b[:]))
}

// cut returns the largest power of two that is less than n.
func cut(n int) int { return 1 << (bits.Len(uint(n-1)) - 1) }

// rootOf returns the digest of a tree, as the chapter defines it.
func rootOf(leaves [][]byte) api.Digest {
	if len(leaves) == 1 {
		return leafDigest(leaves[0])
	}
	k := cut(len(leaves))
	return pairDigest(rootOf(leaves[:k]), rootOf(leaves[k:]))
}

// part is a subtree: the leaves with the indices from first to the one before end.
type part struct {
	first, end int
	parent     *part
}

// parts returns the subtree with these leaves and all subtrees of it.
func parts(first int, end int, parent *part) []*part {
	p := &part{first, end, parent}
	l := []*part{p}
	if end-first > 1 {
		k := first + cut(end-first)
		l = append(l, parts(first, k, p)...)
		l = append(l, parts(k, end, p)...)
	}
	return l
}

// isClosed reports whether no leaf of p is opened.
func (p *part) isClosed(idx []int) bool {
	return !slices.ContainsFunc(idx, func(i int) bool { return p.first <= i && i < p.end })
}

// nodesOf returns the digests of the maximal closed subtrees, as the chapter defines them.
func nodesOf(leaves [][]byte, idx []int) []api.Digest {
	var maximal []*part
	for _, p := range parts(0, len(leaves), nil) {
		if p.isClosed(idx) && (p.parent == nil || !p.parent.isClosed(idx)) {
			maximal = append(maximal, p)
		}
	}
	slices.SortFunc(maximal, func(p *part, q *part) int { return p.first - q.first })
	var l []api.Digest
	for _, p := range maximal {
		l = append(l, rootOf(leaves[p.first:p.end]))
	}
	return l
}

// pathOf returns the digests of the siblings of the subtrees that contain leaf i, from the leaf upward.
func pathOf(leaves [][]byte, i int) []api.Digest {
	all := parts(0, len(leaves), nil)
	slices.SortFunc(all, func(p *part, q *part) int { return (p.end - p.first) - (q.end - q.first) })
	var l []api.Digest
	for _, p := range all {
		if p.isClosed([]int{i}) || p.parent == nil {
			continue
		}
		for _, q := range all {
			if q != p && q.parent == p.parent {
				l = append(l, rootOf(leaves[q.first:q.end]))
			}
		}
	}
	return l
}

// peaksOf returns the peaks of a tree, as the chapter defines them.
func peaksOf(leaves [][]byte) []api.Digest {
	var l []api.Digest
	for size := 1 << 62; size > 0; size /= 2 {
		if len(leaves)&size != 0 {
			l = append(l, rootOf(leaves[:size]))
			leaves = leaves[size:]
		}
	}
	return l
}

// random returns n bytes without a pattern.
func random(n int, seed uint32) []byte {
	b := make([]byte, n)
	x := seed
	for i := range b {
		x = 1664525*x + 1013904223
		b[i] = byte(x >> 24)
	}
	return b
}

// leavesOf returns n different leaves, with 0 to 80 bytes.
func leavesOf(n int) [][]byte {
	l := make([][]byte, n)
	for i := range l {
		// The length and the last bytes tell the index.
		b := random(i%78, uint32(i))
		if i > 0 {
			b = append(b, byte(i), byte(i>>8), byte(i>>16))
		}
		l[i] = b
	}
	return l
}

// at returns the opened leaves with the indices idx.
func at(leaves [][]byte, idx []int) api.Leaves {
	l := api.Leaves{Index: idx}
	for _, i := range idx {
		l.B = append(l.B, leaves[i])
	}
	return l
}

// upTo returns the numbers from 0 to n-1.
func upTo(n int) []int {
	l := make([]int, n)
	for i := range l {
		l[i] = i
	}
	return l
}

// subset returns those of the n indices whose bits are set.
func subset(set int, n int) []int {
	return slices.DeleteFunc(upTo(n), func(i int) bool { return set>>i&1 == 0 })
}

// selections returns lists of indices of n leaves: all of them if n is small, and otherwise some of all kinds.
func selections(n int) [][]int {
	var l [][]int
	if n <= 8 {
		for set := range 1 << n {
			l = append(l, subset(set, n))
		}
		return l
	}
	for _, i := range []int{0, 1, cut(n) - 1, cut(n), n - 2, n - 1} {
		l = append(l, []int{i}, slices.Delete(upTo(n), i, i+1))
	}
	l = append(l, nil, upTo(n), []int{0, n - 1}, upTo(cut(n)), upTo(n)[cut(n):])
	for _, share := range []byte{2, 16, 128, 250} {
		b := random(n, uint32(n)+uint32(share))
		l = append(l, slices.DeleteFunc(upTo(n), func(i int) bool { return b[i] >= share }))
	}
	return l
}

// sizes returns every small number of leaves, and larger ones around powers of two.
func sizes() []int { return append(upTo(34)[1:], 63, 64, 65, 100, 127, 128, 129, 255, 257) }

// checkSame reports lists of digests that differ.
func checkSame(t *testing.T, what string, got []api.Digest, want []api.Digest) {
	t.Helper()
	if !slices.Equal(got, want) {
		t.Errorf("%s: %x, want %x", what, got, want)
	}
}

// digestOf returns the digest that the hexadecimal digits describe.
func digestOf(digits string) api.Digest {
	b, err := hex.DecodeString(digits)
	if err != nil || len(b) != len(api.Digest{}) {
		panic("not a digest: " + digits)
	}
	return api.Digest(b)
}

// H1, H2, H4, H5: the examples of the chapter.
func TestExamples(t *testing.T) {
	leaves := [][]byte{[]byte("a"), []byte("b"), []byte("c")}
	a, b, c := leafDigest(leaves[0]), leafDigest(leaves[1]), leafDigest(leaves[2])
	ab := pairDigest(a, b)
	if got, err := merkle.Root(leaves); got != pairDigest(ab, c) || err != api.OK {
		t.Errorf("Root: %x, %v", got, err)
	}
	opening, err := merkle.Open(leaves, []int{1})
	checkSame(t, "Open", opening.Nodes, []api.Digest{a, c})
	path, err2 := merkle.Witness(leaves, 2)
	checkSame(t, "Witness", path, []api.Digest{ab})
	if err != api.OK || err2 != api.OK {
		t.Errorf("errors: %v, %v", err, err2)
	}
	var peaks []api.Digest
	for i, leaf := range leaves {
		peaks = merkle.Push(peaks, i, leaf)
	}
	checkSame(t, "Push", peaks, []api.Digest{ab, c})
}

// H1: the roots of the trees with up to 8 leaves that implementations of RFC 6962 are tested with.
func TestRootOfKnownTrees(t *testing.T) {
	leaves := [][]byte{{}, {0x00}, {0x10}, {0x20, 0x21}, {0x30, 0x31}, {0x40, 0x41, 0x42, 0x43}, {0x50, 0x51, 0x52, 0x53, 0x54, 0x55, 0x56, 0x57}, nil}
	for x := range byte(16) {
		leaves[7] = append(leaves[7], 0x60+x)
	}
	for i, digits := range []string{
		"6e340b9cffb37a989ca544e6bb780a2c78901d3fb33738768511a30617afa01d",
		"fac54203e7cc696cf0dfcb42c92a1d9dbaf70ad9e621f4bd8d98662f00e3c125",
		"aeb6bcfe274b70a14fb067a5e5578264db0fa9b51af5e0ba159158f329e06e77",
		"d37ee418976dd95753c1c73862b9398fa2a2cf9b4ff0fdfe8b30cd95209614b7",
		"4e3bbb1f7b478dcfe71fb631631519a3bca12c9aefca1612bfce4c13a86264d4",
		"76e67dadbcdf1e10e1b74ddc608abd2f98dfb16fbce75277b5232a127f2087ef",
		"ddb89be403809e325750d3d263cd78929c2942b7942a34b77e122c9594a74c8c",
		"5dc9da79a70659a9ad559cb701ded9a2ab9d823aad2f4960cfe370eff4604328",
	} {
		if got, err := merkle.Root(leaves[:i+1]); got != digestOf(digits) || err != api.OK {
			t.Errorf("%d leaves: %x, %v", i+1, got, err)
		}
	}
}

// H1: the root is the digest that the chapter defines, for all numbers of leaves, the largest one too.
func TestRootOfManySizes(t *testing.T) {
	for _, n := range append(sizes(), 1000, 4097, most-1, most) {
		leaves := leavesOf(n)
		if got, err := merkle.Root(leaves); got != rootOf(leaves) || err != api.OK {
			t.Errorf("%d leaves: %x, %v", n, got, err)
		}
	}
}

// H1: leaves may be empty and equal to each other.
func TestRootOfEqualLeaves(t *testing.T) {
	for n := 1; n < 20; n++ {
		none := make([][]byte, n)
		empty := slices.Repeat([][]byte{{}}, n)
		first, err := merkle.Root(none)
		second, err2 := merkle.Root(empty)
		if first != rootOf(none) || first != second || err != api.OK || err2 != api.OK {
			t.Errorf("%d empty leaves: %x, %v and %x, %v", n, first, err, second, err2)
		}
	}
}

// H1: there is no tree without leaves, and none with more than 65536.
func TestRootErrors(t *testing.T) {
	for _, c := range []struct {
		leaves [][]byte
		want   api.Errno
	}{{nil, api.ErrArg}, {[][]byte{}, api.ErrArg}, {make([][]byte, most+1), api.ErrBig}, {make([][]byte, 2*most), api.ErrBig}} {
		if got, err := merkle.Root(c.leaves); got != (api.Digest{}) || err != c.want {
			t.Errorf("%d leaves: %x, %v, want %v", len(c.leaves), got, err, c.want)
		}
	}
}

// H2: an opening has the digests of the maximal closed subtrees, from left to right.
func TestOpenManySelections(t *testing.T) {
	for _, n := range sizes() {
		leaves := leavesOf(n)
		for _, idx := range selections(n) {
			got, err := merkle.Open(leaves, idx)
			if want := nodesOf(leaves, idx); err != api.OK || !slices.Equal(got.Nodes, want) {
				t.Errorf("%d leaves, %v: %x, %v, want %x", n, idx, got.Nodes, err, want)
			}
		}
	}
}

// H2: an opening of no leaf has the root of the tree, which is closed.
func TestOpenNothing(t *testing.T) {
	for _, n := range []int{1, 2, 3, 7, 100} {
		leaves := leavesOf(n)
		for _, idx := range [][]int{nil, {}} {
			got, err := merkle.Open(leaves, idx)
			if err != api.OK || !slices.Equal(got.Nodes, []api.Digest{rootOf(leaves)}) {
				t.Errorf("%d leaves: %x, %v", n, got.Nodes, err)
			}
		}
	}
}

// H2: the opened leaves must exist and be in order, and this is checked before the number of leaves.
func TestOpenErrors(t *testing.T) {
	for _, c := range []struct {
		n    int
		idx  []int
		want api.Errno
	}{
		{0, nil, api.ErrArg}, {0, []int{0}, api.ErrArg},
		{1, []int{1}, api.ErrArg}, {1, []int{-1}, api.ErrArg}, {1, []int{0, 0}, api.ErrArg},
		{5, []int{5}, api.ErrArg}, {5, []int{0, 5}, api.ErrArg}, {5, []int{-1, 0}, api.ErrArg}, {5, []int{0, 2, 2}, api.ErrArg},
		{5, []int{1, 0}, api.ErrArg}, {5, []int{0, 3, 2, 4}, api.ErrArg}, {5, []int{math.MaxInt}, api.ErrArg},
		{5, []int{math.MinInt}, api.ErrArg}, {5, []int{4, math.MinInt}, api.ErrArg}, {5, []int{math.MaxInt, 0}, api.ErrArg},
		{most, []int{most}, api.ErrArg}, {most, []int{0, 0}, api.ErrArg},
		{most + 1, nil, api.ErrBig}, {most + 1, []int{0, 7}, api.ErrBig}, {most + 1, []int{most}, api.ErrBig},
		{most + 1, []int{most + 1}, api.ErrArg}, {most + 1, []int{-1}, api.ErrArg}, {most + 1, []int{3, 3}, api.ErrArg},
	} {
		if got, err := merkle.Open(make([][]byte, c.n), c.idx); len(got.Nodes) != 0 || err != c.want {
			t.Errorf("%d leaves, %v: %d nodes, %v, want %v", c.n, c.idx, len(got.Nodes), err, c.want)
		}
	}
}

// H3: the opened leaves must be leaves of a tree that may exist, and this is checked before anything else.
func TestVerifyArguments(t *testing.T) {
	leaves := leavesOf(5)
	b := func(n int) [][]byte { return slices.Repeat([][]byte{leaves[0]}, n) }
	for _, c := range []struct {
		n    int
		idx  []int
		b    [][]byte
		want api.Errno
	}{
		{0, nil, nil, api.ErrArg}, {-1, nil, nil, api.ErrArg}, {math.MinInt, nil, nil, api.ErrArg},
		{0, []int{0}, b(1), api.ErrArg}, {-1, []int{-2}, b(1), api.ErrArg},
		{5, []int{5}, b(1), api.ErrArg}, {5, []int{-1}, b(1), api.ErrArg}, {5, []int{0, 5}, b(2), api.ErrArg},
		{5, []int{1, 1}, b(2), api.ErrArg}, {5, []int{2, 1}, b(2), api.ErrArg}, {5, []int{0, 3, 2, 4}, b(4), api.ErrArg},
		{5, []int{math.MaxInt, math.MinInt}, b(2), api.ErrArg}, {5, []int{math.MinInt, math.MaxInt}, b(2), api.ErrArg},
		{5, []int{0, 1}, b(1), api.ErrArg}, {5, []int{0, 1}, b(3), api.ErrArg}, {5, nil, b(1), api.ErrArg}, {5, []int{0}, nil, api.ErrArg},
		{most + 1, []int{most + 1}, b(1), api.ErrArg}, {most + 1, []int{0, 0}, b(2), api.ErrArg}, {most + 1, []int{0}, b(2), api.ErrArg},
		{most + 1, []int{0}, b(1), api.ErrBig}, {most + 1, nil, nil, api.ErrBig}, {most + 1, []int{most}, b(1), api.ErrBig},
		{math.MaxInt, nil, nil, api.ErrBig}, {math.MaxInt, []int{math.MaxInt - 1}, b(1), api.ErrBig},
		{math.MaxInt, []int{math.MaxInt}, b(1), api.ErrArg},
		{most, []int{0}, b(1), api.ErrPath}, {5, []int{0}, b(1), api.ErrPath}, {5, nil, nil, api.ErrPath}, {1, nil, nil, api.ErrPath},
	} {
		for _, root := range []api.Digest{{}, rootOf(leaves)} {
			if err := merkle.Verify(root, c.n, api.Leaves{Index: c.idx, B: c.b}, api.Opening{}); err != c.want {
				t.Errorf("%d leaves, %v with %d contents: %v, want %v", c.n, c.idx, len(c.b), err, c.want)
			}
		}
	}
}

// H3: the number of nodes must be right, whatever they are.
func TestVerifyNumberOfNodes(t *testing.T) {
	for _, n := range []int{1, 2, 3, 5, 8, 13} {
		leaves := leavesOf(n)
		root := rootOf(leaves)
		for _, idx := range selections(n) {
			l, nodes := at(leaves, idx), nodesOf(leaves, idx)
			wrong := [][]api.Digest{append([]api.Digest{{}}, nodes...), append(slices.Clone(nodes), api.Digest{}), append(slices.Clone(nodes), root), append(slices.Clone(nodes), nodes...)}
			if len(nodes) > 0 {
				wrong = append(wrong, nil, nodes[1:], nodes[:len(nodes)-1])
			} else {
				wrong = wrong[:3]
			}
			for _, w := range wrong {
				if err := merkle.Verify(root, n, l, api.Opening{Nodes: w}); err != api.ErrPath {
					t.Errorf("%d leaves, %v, %d nodes in place of %d: %v", n, idx, len(w), len(nodes), err)
				}
			}
		}
	}
}

// H3: an opening of a tree with more than 65536 leaves is refused, also if it leads to the root.
func TestVerifyTooManyLeaves(t *testing.T) {
	leaf, node := []byte("leaf"), api.Digest{1, 2, 3}
	l, o := api.Leaves{Index: []int{most}, B: [][]byte{leaf}}, api.Opening{Nodes: []api.Digest{node}}
	if err := merkle.Verify(pairDigest(node, leafDigest(leaf)), most+1, l, o); err != api.ErrBig {
		t.Errorf("%d leaves: %v", most+1, err)
	}
	if err := merkle.Verify(node, most+1, api.Leaves{}, o); err != api.ErrBig {
		t.Errorf("%d leaves, none opened: %v", most+1, err)
	}
}

// H3: the opening of no leaf is accepted if its only node is the root.
func TestVerifyNothing(t *testing.T) {
	root, other := api.Digest{5}, api.Digest{6}
	for _, n := range []int{1, 2, 3, 1000, most} {
		if err := merkle.Verify(root, n, api.Leaves{}, api.Opening{Nodes: []api.Digest{root}}); err != api.OK {
			t.Errorf("%d leaves: %v", n, err)
		}
		if err := merkle.Verify(root, n, api.Leaves{}, api.Opening{Nodes: []api.Digest{other}}); err != api.ErrPath {
			t.Errorf("%d leaves, other root: %v", n, err)
		}
	}
}

// H4: Push returns the peaks of a tree with one more leaf.
func TestPushOneByOne(t *testing.T) {
	leaves := leavesOf(300)
	var peaks []api.Digest
	for n, leaf := range leaves {
		peaks = merkle.Push(peaks, n, leaf)
		if want := peaksOf(leaves[:n+1]); !slices.Equal(peaks, want) {
			t.Fatalf("%d leaves: %x, want %x", n+1, peaks, want)
		}
	}
}

// H4: the numbers of leaves of growing trees have no limit.
func TestPushToManyLeaves(t *testing.T) {
	leaf := []byte("the last one")
	for _, count := range []int{most - 1, most, most + 1, 1<<31 - 1, 1 << 40, 1<<62 + 7, math.MaxInt - 1, math.MaxInt} {
		before := make([]api.Digest, bits.OnesCount(uint(count)))
		for i := range before {
			before[i] = api.Digest{byte(i)}
		}
		joined := bits.TrailingZeros(^uint(count))
		d := leafDigest(leaf)
		for i := range joined {
			d = pairDigest(before[len(before)-1-i], d)
		}
		want := append(slices.Clone(before[:len(before)-joined]), d)
		if got := merkle.Push(before, count, leaf); !slices.Equal(got, want) {
			t.Errorf("%d leaves: %x, want %x", count, got, want)
		}
	}
}

// H4: the peaks that were passed stay, and so does the memory behind them.
func TestPushOverwritesNothing(t *testing.T) {
	leaves := leavesOf(70)
	for n, leaf := range leaves {
		memory := append(peaksOf(leaves[:n]), slices.Repeat([]api.Digest{{0xee}}, 8)...)
		was := slices.Clone(memory)
		given := memory[:len(memory)-8]
		first := merkle.Push(given, n, leaf)
		second := merkle.Push(given, n, []byte("another one"))
		if !slices.Equal(memory, was) {
			t.Errorf("%d leaves: the argument was modified", n)
		}
		checkSame(t, "Push after another Push", first, peaksOf(leaves[:n+1]))
		checkSame(t, "Push of another leaf", second, peaksOf(append(slices.Clone(leaves[:n]), []byte("another one"))))
	}
}

// H4: Bag pairs the peaks from right to left.
func TestBag(t *testing.T) {
	a, b, c, d := api.Digest{1}, api.Digest{2}, api.Digest{3}, api.Digest{4}
	for _, x := range []struct {
		peaks []api.Digest
		want  api.Digest
	}{
		{nil, api.Digest{}}, {[]api.Digest{}, api.Digest{}}, {[]api.Digest{a}, a}, {[]api.Digest{a, b}, pairDigest(a, b)},
		{[]api.Digest{a, b, c}, pairDigest(a, pairDigest(b, c))},
		{[]api.Digest{a, b, c, d}, pairDigest(a, pairDigest(b, pairDigest(c, d)))},
		{[]api.Digest{{}, {}}, pairDigest(api.Digest{}, api.Digest{})},
	} {
		if got := merkle.Bag(x.peaks); got != x.want {
			t.Errorf("Bag(%x): %x, want %x", x.peaks, got, x.want)
		}
	}
}

// H5: a path has the digests of the siblings of the subtrees with the leaf, from the leaf upward.
func TestWitnessOfEveryLeaf(t *testing.T) {
	for _, n := range append(upTo(34)[1:], 63, 64, 65, 100) {
		leaves := leavesOf(n)
		for i := range n {
			got, err := merkle.Witness(leaves, i)
			if want := pathOf(leaves, i); err != api.OK || !slices.Equal(got, want) {
				t.Errorf("leaf %d of %d: %x, %v, want %x", i, n, got, err, want)
			}
		}
	}
}

// H5: the leaf must exist, and this is checked before the number of leaves.
func TestWitnessErrors(t *testing.T) {
	for _, c := range []struct {
		n    int
		i    int
		want api.Errno
	}{
		{0, 0, api.ErrArg}, {0, -1, api.ErrArg}, {1, 1, api.ErrArg}, {1, -1, api.ErrArg}, {5, 5, api.ErrArg}, {5, math.MinInt, api.ErrArg}, {5, math.MaxInt, api.ErrArg},
		{most, most, api.ErrArg}, {most + 1, most + 1, api.ErrArg}, {most + 1, -1, api.ErrArg}, {most + 1, 0, api.ErrBig}, {most + 1, most, api.ErrBig},
	} {
		if got, err := merkle.Witness(make([][]byte, c.n), c.i); len(got) != 0 || err != c.want {
			t.Errorf("leaf %d of %d: %d digests, %v, want %v", c.i, c.n, len(got), err, c.want)
		}
	}
}

// member returns the peaks of a tree and the membership of its leaf i.
func member(leaves [][]byte, i int) ([]api.Digest, api.Membership) {
	return peaksOf(leaves), api.Membership{Count: len(leaves), Index: i, B: leaves[i], Path: pathOf(leaves, i)}
}

// H5: the number of leaves and the index must be possible.
func TestContainsArguments(t *testing.T) {
	for _, n := range []int{1, 2, 3, 6, 7, 8} {
		leaves := leavesOf(n)
		for i := range n {
			peaks, p := member(leaves, i)
			for _, count := range []int{0, -1, -n, math.MinInt, math.MaxInt, most + 1, 1 << 17, 1 << 62} {
				q := p
				q.Count = count
				if merkle.Contains(peaks, q) {
					t.Errorf("leaf %d of %d: accepted with Count %d", i, n, count)
				}
			}
			for _, index := range []int{-1, n, n + 1, i + n, i - n, math.MinInt, math.MaxInt} {
				q := p
				q.Index = index
				if merkle.Contains(peaks, q) {
					t.Errorf("leaf %d of %d: accepted with Index %d", i, n, index)
				}
			}
		}
	}
	for _, count := range []int{0, -1} {
		if merkle.Contains(nil, api.Membership{Count: count}) {
			t.Errorf("a leaf of %d leaves", count)
		}
	}
}

// sameRoot returns lists of other lengths than that of the peaks of a tree, but with the same root.
func sameRoot(leaves [][]byte) [][]api.Digest {
	peaks := peaksOf(leaves)
	var l [][]api.Digest
	for k := range len(peaks) - 1 {
		l = append(l, append(slices.Clone(peaks[:k]), merkle.Bag(peaks[k:])))
	}
	if last := len(leaves) & -len(leaves); last > 1 {
		middle := len(leaves) - last/2
		halves := []api.Digest{rootOf(leaves[len(leaves)-last : middle]), rootOf(leaves[middle:])}
		l = append(l, slices.Concat(peaks[:len(peaks)-1], halves))
	}
	return l
}

// H5: the number of peaks must be that of the set bits of Count, also if they lead to the same root.
func TestContainsNumberOfPeaks(t *testing.T) {
	for n := 1; n < 20; n++ {
		leaves := leavesOf(n)
		others := sameRoot(leaves)
		for _, other := range others {
			if merkle.Bag(other) != rootOf(leaves) {
				t.Errorf("%d leaves: %x has another root", n, other)
			}
		}
		for i := range n {
			peaks, p := member(leaves, i)
			for _, other := range append(others, nil, peaks[1:], append(slices.Clone(peaks), api.Digest{})) {
				if merkle.Contains(other, p) {
					t.Errorf("leaf %d of %d: accepted with %d peaks in place of %d", i, n, len(other), len(peaks))
				}
			}
		}
	}
}

// H5: the number of digests of the path must be right, also if some of them lead to the root.
func TestContainsLengthOfPath(t *testing.T) {
	for n := 1; n < 20; n++ {
		leaves := leavesOf(n)
		for i := range n {
			peaks, p := member(leaves, i)
			wrong := [][]api.Digest{append(slices.Clone(p.Path), api.Digest{}), append([]api.Digest{{}}, p.Path...)}
			if len(p.Path) > 0 {
				wrong = append(wrong, nil, p.Path[1:], p.Path[:len(p.Path)-1])
			}
			for _, path := range wrong {
				q := p
				q.Path = path
				if merkle.Contains(peaks, q) {
					t.Errorf("leaf %d of %d: accepted with %d digests in place of %d", i, n, len(path), len(p.Path))
				}
			}
		}
	}
}

// H5: a tree has at most 65536 leaves, also if the path leads to the root of a larger one.
func TestContainsTooManyLeaves(t *testing.T) {
	for _, c := range []struct {
		count int
		want  bool
	}{{most, true}, {2 * most, false}, {4 * most, false}} {
		p := api.Membership{Count: c.count, B: []byte("leaf"), Path: make([]api.Digest, bits.Len(uint(c.count))-1)}
		root := leafDigest(p.B)
		for _, d := range p.Path {
			root = pairDigest(root, d)
		}
		if got := merkle.Contains([]api.Digest{root}, p); got != c.want {
			t.Errorf("leaf 0 of %d: %v", c.count, got)
		}
	}
}

// H5: the root does not determine the number of leaves, which the caller has to know.
func TestContainsWrongCount(t *testing.T) {
	peaks, p := member(leavesOf(3), 2)
	p.Count, p.Index = 5, 4
	if !merkle.Contains(peaks, p) {
		t.Error("the last of 3 leaves is not accepted as the last of 5, whose path has the same length")
	}
	p.Count, p.Index = 7, 6
	if merkle.Contains(peaks, p) {
		t.Error("the last of 3 leaves is accepted as the last of 7, which have 3 peaks")
	}
}

// H1 to H5: a leaf is not an inner node with the same bytes.
func TestLeavesAreNotInnerNodes(t *testing.T) {
	leaves := leavesOf(4)
	root := rootOf(leaves)
	a, b := leafDigest(leaves[0]), leafDigest(leaves[1])
	right := pairDigest(leafDigest(leaves[2]), leafDigest(leaves[3]))
	for _, inner := range [][]byte{slices.Concat(a[:], b[:]), slices.Concat([]byte{1}, a[:], b[:])} {
		l := api.Leaves{Index: []int{0}, B: [][]byte{inner}}
		if err := merkle.Verify(root, 2, l, api.Opening{Nodes: []api.Digest{right}}); err != api.ErrPath {
			t.Errorf("Verify of %x: %v", inner, err)
		}
		p := api.Membership{Count: 2, B: inner, Path: []api.Digest{right}}
		if merkle.Contains([]api.Digest{root}, p) {
			t.Errorf("Contains of %x", inner)
		}
		if got, _ := merkle.Root([][]byte{inner}); bytes.Equal(got[:], root[:]) {
			t.Errorf("Root of %x", inner)
		}
	}
}
