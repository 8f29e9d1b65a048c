package transcript_test

import (
	"bytes"
	"encoding/binary"
	"math"
	"slices"
	"strings"
	"sync"
	"testing"

	"attestor/api"
	"attestor/ext"
	"attestor/transcript"
)

// absorptions returns what the functions that absorb make of a transcript.
func absorptions(t api.Transcript) []api.Transcript {
	var l []api.Transcript
	for _, label := range []string{"", "a", "message"} {
		for _, b := range messages(20) {
			l = append(l, transcript.Absorb(t, label, b))
		}
		for _, e := range lists() {
			l = append(l, transcript.AbsorbExt(t, label, e))
		}
		for _, n := range integers() {
			l = append(l, transcript.AbsorbInts(t, label, n))
		}
	}
	return l
}

// P10.2: absorbing sets Count to 0, whatever it was, and changes State.
func TestAbsorbingSetsCount(t *testing.T) {
	for _, start := range transcripts() {
		fresh := absorptions(api.Transcript{State: start.State})
		for i, got := range absorptions(start) {
			if got.Count != 0 || got.State == start.State {
				t.Errorf("absorption %d by %v: %v", i, start, got)
			}
			if got != fresh[i] {
				t.Errorf("absorption %d by %v depends on Count", i, start)
			}
		}
	}
}

// P10.2: drawing does not change State and increases Count.
func TestDrawingKeepsState(t *testing.T) {
	for _, start := range transcripts() {
		after, _ := transcript.Challenge(start, "draw")
		if after.State != start.State || after.Count <= start.Count {
			t.Errorf("Challenge of %v returns the transcript %v", start, after)
		}
		for _, w := range []api.Draw{{Limit: 1, Count: 1}, {Limit: 100, Count: 20}, {Limit: 65536, Count: 64}} {
			after, _ := transcript.Indices(start, "draw", w)
			if after.State != start.State || after.Count <= start.Count {
				t.Errorf("Indices of %v, %v returns the transcript %v", start, w, after)
			}
		}
	}
}

// P10.2: transcripts that have absorbed the same are equal and yield the same, others do not. Neither the purposes nor
// the ends of labels and messages can be confused.
func TestInputsAreSeparate(t *testing.T) {
	x := transcript.New("x")
	l := []api.Transcript{
		x, transcript.New(""), transcript.New("xx"), transcript.New("x\x00"),
		transcript.Absorb(x, "", nil), transcript.Absorb(x, "a", nil), transcript.Absorb(x, "", []byte("a")),
		transcript.Absorb(x, "ab", []byte("c")), transcript.Absorb(x, "a", []byte("bc")),
		transcript.Absorb(transcript.Absorb(x, "", nil), "", nil), transcript.Absorb(x, "", make([]byte, 1)),
		transcript.Absorb(x, "", make([]byte, 8)), transcript.Absorb(x, "", make([]byte, 16)),
	}
	seen := map[api.Transcript]bool{}
	drawn := map[api.Ext]bool{}
	for i, y := range l {
		_, a := transcript.Challenge(y, "draw")
		if seen[y] || drawn[a] {
			t.Errorf("transcript %d is the same as one before it, or has its challenge", i)
		}
		seen[y], drawn[a] = true, true
	}
	for _, label := range labels() {
		_, a := transcript.Challenge(x, label)
		if drawn[a] {
			t.Errorf("the label %q has the challenge of another label or transcript", label)
		}
		drawn[a] = true
	}
}

// P10.2: elements and integers are absorbed as the bytes that they are, so that equal bytes lead to equal challenges.
func TestEqualTranscripts(t *testing.T) {
	for _, start := range transcripts() {
		a := transcript.Absorb(start, "same", slices.Concat(word(3), word(math.MaxUint64>>1)))
		b := transcript.AbsorbExt(start, "same", []api.Ext{{A: 3, B: math.MaxUint64 >> 1}})
		c := transcript.AbsorbInts(start, "same", []int64{3, math.MaxInt64})
		if a != b || a != c {
			t.Fatalf("the same bytes lead from %v to %v, %v and %v", start, a, b, c)
		}
		afterA, x := transcript.Challenge(a, "draw")
		afterB, y := transcript.Challenge(b, "draw")
		if afterA != afterB || x != y {
			t.Errorf("equal transcripts have the challenges %v and %v", x, y)
		}
	}
}

// P10.3: Bytes has 16 bytes for each element, which determine it.
func TestBytesDetermineElements(t *testing.T) {
	for _, l := range lists() {
		b := transcript.Bytes(l)
		if len(b) != 16*len(l) {
			t.Fatalf("Bytes(%v) has %d bytes", l, len(b))
		}
		for i, x := range l {
			back := api.Ext{A: binary.LittleEndian.Uint64(b[16*i:]), B: binary.LittleEndian.Uint64(b[16*i+8:])}
			if back != x {
				t.Errorf("element %d of %v comes back as %v", i, l, back)
			}
		}
	}
}

// P10.4: challenges are valid, and drawing several of them is drawing each one with the Count that belongs to it.
func TestChallengesInSequence(t *testing.T) {
	for _, start := range transcripts() {
		next := start
		for i := range uint64(50) {
			after, a := transcript.Challenge(next, "sequence")
			single, b := transcript.Challenge(api.Transcript{State: start.State, Count: start.Count + i}, "sequence")
			if after != single || a != b {
				t.Fatalf("challenge %d from %v: %v, %v, alone %v, %v", i, start, after, a, single, b)
			}
			if !ext.Valid(a) {
				t.Fatalf("challenge %d from %v is %v", i, start, a)
			}
			next = after
		}
	}
}

// largePart names a Count for which a part of the digest, drawn from the transcript of the empty label, is no element.
type largePart struct {
	count uint64
	part  int
}

// largeParts returns some of them, which were found by a search over some 10^10 counts.
func largeParts() []largePart {
	return []largePart{{11863541089, 0}, {13113317115, 1}, {13585006303, 0}, {14136234172, 1}}
}

// P10.4: challenges are valid field elements also where the bytes of the digest encode an integer that is not.
func TestReducedChallenges(t *testing.T) {
	for _, x := range largeParts() {
		start := api.Transcript{State: transcript.New("").State, Count: x.count}
		d := tagged(start, 2, "", word(x.count))
		if part(d, x.part) < p {
			t.Fatalf("Count %d: part %d is %d", x.count, x.part, part(d, x.part))
		}
		_, c := transcript.Challenge(start, "")
		if want := (api.Ext{A: part(d, 0) % p, B: part(d, 1) % p}); c != want || !ext.Valid(c) {
			t.Errorf("Count %d: %v, want %v", x.count, c, want)
		}
	}
}

// P10.5: indices are increasing, different and in range, and more of them are a superset.
func TestIndicesGrow(t *testing.T) {
	for _, start := range transcripts() {
		for _, limit := range []int{1, 2, 10, 64, 65, 1000, 65536} {
			var before []int
			count := start.Count
			for n := range min(limit, api.MaxTests) + 1 {
				after, l := transcript.Indices(start, "grow", api.Draw{Limit: limit, Count: n})
				if len(l) != n || after.Count < count {
					t.Fatalf("%d indices of %d: %v, transcript %v", n, limit, l, after)
				}
				for i, x := range l {
					if x < 0 || x >= limit || i > 0 && x <= l[i-1] {
						t.Fatalf("%d indices of %d: %v", n, limit, l)
					}
				}
				for _, x := range before {
					if !slices.Contains(l, x) {
						t.Fatalf("%d indices of %d: %v, but before them %v", n, limit, l, before)
					}
				}
				before, count = l, after.Count
			}
		}
	}
}

// P10.5: every index is drawn sometimes.
func TestIndicesCover(t *testing.T) {
	seen := map[int]bool{}
	x := transcript.New("cover")
	for range 2000 {
		var l []int
		x, l = transcript.Indices(x, "cover", api.Draw{Limit: 1000, Count: 8})
		for _, i := range l {
			seen[i] = true
		}
	}
	if len(seen) != 1000 {
		t.Errorf("%d of 1000 indices are drawn", len(seen))
	}
}

// P1: every call returns, also with labels that are too long and elements that are not valid.
func TestCallsReturn(t *testing.T) {
	long := []string{strings.Repeat("x", 33), strings.Repeat("x", 255), strings.Repeat("x", 256), strings.Repeat("x", 70000)}
	numbers := []int{math.MinInt, -1, 0, 1, 2, 63, 64, 65, 65535, 65536, 65537, math.MaxInt}
	for _, label := range append(labels(), long...) {
		x := transcript.New(label)
		transcript.AbsorbExt(x, label, []api.Ext{{A: p, B: math.MaxUint64}})
		transcript.AbsorbInts(x, label, []int64{math.MinInt64})
		transcript.Absorb(x, label, nil)
		last := api.Transcript{State: x.State, Count: math.MaxUint64}
		transcript.Challenge(last, label)
		for _, limit := range numbers {
			for _, count := range numbers {
				transcript.Indices(last, label, api.Draw{Limit: limit, Count: count})
			}
		}
	}
	transcript.Bytes(nil)
	transcript.Bytes([]api.Ext{{A: math.MaxUint64, B: p}})
}

// outcome is what all functions return.
type outcome struct {
	states  []api.Transcript
	ext     []api.Ext
	indices []int
	bytes   []byte
}

// outcomes returns what all functions return for a transcript and lists of elements and integers.
func outcomes(x api.Transcript, l []api.Ext, n []int64) outcome {
	b := transcript.Bytes(l)
	after, c := transcript.Challenge(x, "a")
	drawn, i := transcript.Indices(x, "b", api.Draw{Limit: 500, Count: 64})
	states := []api.Transcript{
		transcript.New("c"), transcript.Absorb(x, "d", b), transcript.AbsorbExt(x, "e", l), transcript.AbsorbInts(x, "f", n),
		after, drawn,
	}
	return outcome{states: states, ext: []api.Ext{c}, indices: i, bytes: b}
}

// same reports whether two outcomes are equal.
func (o outcome) same(q outcome) bool {
	return slices.Equal(o.states, q.states) && slices.Equal(o.ext, q.ext) && slices.Equal(o.indices, q.indices) &&
		bytes.Equal(o.bytes, q.bytes)
}

// P2: equal arguments have equal results, whatever was called before and is called at the same time.
func TestResultsRepeat(t *testing.T) {
	l := []api.Ext{{A: 1, B: 2}, {A: p - 1}}
	n := []int64{-1, 5}
	var first []outcome
	for _, x := range transcripts() {
		first = append(first, outcomes(x, l, n))
	}
	var wait sync.WaitGroup
	for range 4 {
		wait.Go(func() {
			for i, x := range slices.Backward(transcripts()) {
				if !outcomes(x, slices.Clone(l), slices.Clone(n)).same(first[i]) {
					t.Errorf("transcript %d has other results", i)
				}
			}
		})
	}
	wait.Wait()
}

// P2: arguments and the memory around them stay as they are, and results share no memory with them or with each other.
func TestArgumentsStay(t *testing.T) {
	b, e, n := random(50, 1), []api.Ext{{A: 1, B: 2}, {A: 3, B: 4}, {A: 5, B: 6}}, []int64{1, 2, 3, 4}
	b2, e2, n2 := slices.Clone(b), slices.Clone(e), slices.Clone(n)
	x := transcript.New("stay")
	was := outcomes(x, e[:2], n[:2])
	transcript.Absorb(x, "stay", b[10:20])
	if !bytes.Equal(b, b2) || !slices.Equal(e, e2) || !slices.Equal(n, n2) || x != transcript.New("stay") {
		t.Error("an argument was modified")
	}
	got := outcomes(x, e[:2], n[:2])
	clear(got.bytes)
	clear(got.indices)
	if !outcomes(x, e[:2], n[:2]).same(was) || !slices.Equal(e, e2) {
		t.Error("a result was kept")
	}
}
