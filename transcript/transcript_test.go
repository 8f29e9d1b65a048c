package transcript_test

import (
	"bytes"
	reference "crypto/sha256"
	"encoding/binary"
	"encoding/hex"
	"math"
	"slices"
	"strings"
	"testing"

	"attestor/api"
	"attestor/transcript"
)

const p = api.Prime

// random returns n bytes that follow from the seed.
func random(n int, seed uint64) []byte {
	b := make([]byte, n)
	for i := range b {
		seed = seed*6364136223846793005 + 1442695040888963407
		b[i] = byte(seed >> 56)
	}
	return b
}

// transcripts returns transcripts with ordinary and unusual states and counts.
func transcripts() []api.Transcript {
	l := []api.Transcript{{}, {Count: 1}, transcript.New(""), transcript.New("test")}
	for i, count := range []uint64{0, 1, 255, 256, 1<<32 - 1, 1 << 32, 1 << 63, math.MaxUint64 - 4096} {
		l = append(l, api.Transcript{State: api.Digest(random(32, uint64(i))), Count: count})
	}
	return l
}

// labels returns labels of all lengths from 0 to 32, among them such with unusual bytes.
func labels() []string {
	l := []string{"\x00", "\x00\x00", "\xff", "ä", "label", "labels", "attestor"}
	for n := range api.MaxLabel + 1 {
		l = append(l, string(random(n, 77)))
	}
	return append(l, strings.Repeat("\x00", api.MaxLabel))
}

// messages returns messages of all lengths up to most, and some longer ones.
func messages(most int) [][]byte {
	l := [][]byte{nil, make([]byte, 100), bytes.Repeat([]byte{0xff}, 300), random(1000, 8), random(70000, 9)}
	for n := range most + 1 {
		l = append(l, random(n, uint64(n)))
	}
	return l
}

// lists returns lists of valid elements.
func lists() [][]api.Ext {
	edges := []uint64{0, 1, 255, 256, 1<<32 - 1, 1 << 32, 1 << 63, p - 1}
	l := [][]api.Ext{nil, {}, {{}}, {{}, {}}, {{A: 1, B: 2}}, {{A: p - 1, B: p - 1}}}
	for _, a := range edges {
		for _, b := range edges {
			l = append(l, []api.Ext{{A: a, B: b}}, []api.Ext{{A: b}, {A: a, B: b}, {B: a}})
		}
	}
	return l
}

// integers returns lists of integers.
func integers() [][]int64 {
	edges := []int64{0, 1, -1, 255, 256, -256, 1 << 32, -1 << 32, math.MaxInt64, math.MinInt64}
	l := [][]int64{nil, {}, {0, 0}, {1, 2, 3}, edges}
	for _, n := range edges {
		l = append(l, []int64{n}, []int64{n, -1})
	}
	return l
}

// word returns the encoding of an integer.
func word(x uint64) []byte { return binary.LittleEndian.AppendUint64(nil, x) }

// encoding returns the encoding of elements.
func encoding(l []api.Ext) []byte {
	var b []byte
	for _, x := range l {
		b = slices.Concat(b, word(x.A), word(x.B))
	}
	return b
}

// tagged returns the digest of tagged(x, label, rest).
func tagged(t api.Transcript, x byte, label string, rest ...[]byte) api.Digest {
	start := slices.Concat(t.State[:], []byte{x, byte(len(label))}, []byte(label))
	return reference.Sum256(append(start, slices.Concat(rest...)...))
}

// part returns the integer that the i-th 8 bytes of d encode.
func part(d api.Digest, i int) uint64 { return binary.LittleEndian.Uint64(d[8*i:]) }

// absorbed returns the transcript after a message.
func absorbed(t api.Transcript, label string, b []byte) api.Transcript {
	return api.Transcript{State: tagged(t, 1, label, word(uint64(len(b))), b)}
}

// drawn returns what Indices returns if w is valid, as J5 says it, as long as 4096 hash outputs suffice.
func drawn(t api.Transcript, label string, w api.Draw) (api.Transcript, []int) {
	var l []int
	for len(l) < w.Count {
		d := tagged(t, 3, label, word(t.Count))
		t.Count++
		for i := range 4 {
			c := int(part(d, i) % uint64(w.Limit))
			if len(l) < w.Count && !slices.Contains(l, c) {
				l = append(l, c)
			}
		}
	}
	slices.Sort(l)
	return t, l
}

// digest returns the digest with these hexadecimal digits.
func digest(digits string) api.Digest {
	b, err := hex.DecodeString(digits)
	if err != nil {
		panic(err)
	}
	return api.Digest(b)
}

// J1: a new transcript is the hash of its label behind "attestor" and a zero byte, without a length.
func TestNew(t *testing.T) {
	for _, label := range labels() {
		want := api.Transcript{State: reference.Sum256([]byte("attestor\x00" + label))}
		if got := transcript.New(label); got != want {
			t.Errorf("New(%q): %v, want %v", label, got, want)
		}
	}
}

// J2: a message is absorbed with the state, its label and its length, and Count does not matter.
func TestAbsorb(t *testing.T) {
	for _, start := range transcripts() {
		for _, b := range messages(80) {
			if got, want := transcript.Absorb(start, "message", b), absorbed(start, "message", b); got != want {
				t.Errorf("Absorb(%v, %d bytes): %v, want %v", start, len(b), got, want)
			}
		}
		for _, label := range labels() {
			for _, b := range messages(2) {
				if got, want := transcript.Absorb(start, label, b), absorbed(start, label, b); got != want {
					t.Errorf("Absorb(%v, %q, %d bytes): %v, want %v", start, label, len(b), got, want)
				}
			}
		}
	}
}

// J3: Bytes joins the components, least significant byte first.
func TestBytes(t *testing.T) {
	for _, l := range lists() {
		if got := transcript.Bytes(l); !bytes.Equal(got, encoding(l)) {
			t.Errorf("Bytes(%v): %x, want %x", l, got, encoding(l))
		}
	}
}

// J3: elements and integers are absorbed as the message of their encodings.
func TestAbsorbLists(t *testing.T) {
	for _, start := range transcripts() {
		for _, label := range labels()[:12] {
			for _, l := range lists() {
				if got, want := transcript.AbsorbExt(start, label, l), absorbed(start, label, encoding(l)); got != want {
					t.Errorf("AbsorbExt(%v, %q, %v): %v, want %v", start, label, l, got, want)
				}
			}
			for _, l := range integers() {
				var b []byte
				for _, n := range l {
					b = append(b, word(uint64(n))...)
				}
				if got, want := transcript.AbsorbInts(start, label, l), absorbed(start, label, b); got != want {
					t.Errorf("AbsorbInts(%v, %q, %v): %v, want %v", start, label, l, got, want)
				}
			}
		}
	}
}

// J4: a challenge is the first half of the hash of state, label and Count, which grows by 1.
func TestChallenge(t *testing.T) {
	for _, start := range transcripts() {
		for _, label := range labels() {
			after, c := transcript.Challenge(start, label)
			d := tagged(start, 2, label, word(start.Count))
			if want := (api.Ext{A: part(d, 0) % p, B: part(d, 1) % p}); c != want {
				t.Errorf("Challenge(%v, %q): %v, want %v", start, label, c, want)
			}
			if want := (api.Transcript{State: start.State, Count: start.Count + 1}); after != want {
				t.Errorf("Challenge(%v, %q) returns the transcript %v, want %v", start, label, after, want)
			}
		}
	}
}

// J5: indices are the first different candidates, in increasing order.
func TestIndices(t *testing.T) {
	for _, start := range transcripts() {
		for _, limit := range []int{1, 2, 3, 4, 5, 7, 16, 63, 64, 65, 100, 128, 255, 1000, 32768, 65535, 65536} {
			for count := 0; count <= min(limit, api.MaxTests); count++ {
				w := api.Draw{Limit: limit, Count: count}
				after, got := transcript.Indices(start, "tests", w)
				next, want := drawn(start, "tests", w)
				if after != next || !slices.Equal(got, want) {
					t.Fatalf("Indices(%v, %v): %v, %v, want %v, %v", start, w, after, got, next, want)
				}
			}
		}
	}
}

// J5: the label matters.
func TestLabelsOfIndices(t *testing.T) {
	for _, start := range transcripts() {
		for _, label := range labels() {
			w := api.Draw{Limit: 4096, Count: 12}
			after, got := transcript.Indices(start, label, w)
			if next, want := drawn(start, label, w); after != next || !slices.Equal(got, want) {
				t.Errorf("Indices(%v, %q): %v, %v, want %v, %v", start, label, after, got, next, want)
			}
		}
	}
}

// J5: other limits and counts leave the transcript as it is and yield no indices.
func TestImpossibleDraws(t *testing.T) {
	for _, w := range []api.Draw{
		{}, {Limit: 0, Count: 1}, {Limit: -1}, {Limit: -1, Count: -1}, {Limit: -4, Count: 2}, {Limit: math.MinInt},
		{Limit: 65537}, {Limit: 65537, Count: 1}, {Limit: 1 << 20, Count: 64}, {Limit: math.MaxInt, Count: 3},
		{Limit: 1, Count: 2}, {Limit: 4, Count: 5}, {Limit: 63, Count: 64}, {Limit: 10, Count: -1},
		{Limit: 64, Count: 65}, {Limit: 100, Count: 65}, {Limit: 65536, Count: 65}, {Limit: 65536, Count: 1 << 20},
		{Limit: 4, Count: math.MinInt}, {Limit: 4, Count: math.MaxInt},
	} {
		for _, start := range transcripts() {
			if after, l := transcript.Indices(start, "tests", w); after != start || len(l) != 0 {
				t.Errorf("Indices(%v, %v): %v, %v", start, w, after, l)
			}
		}
	}
}

// The examples of the chapter.
func TestExamples(t *testing.T) {
	if got := transcript.New(""); got.State != reference.Sum256([]byte("attestor\x00")) || got.Count != 0 {
		t.Errorf("New of the empty label: %v", got)
	}
	want := []byte{1, 0, 0, 0, 0, 0, 0, 0, 2, 0, 0, 0, 0, 0, 0, 0}
	if got := transcript.Bytes([]api.Ext{{A: 1, B: 2}}); !bytes.Equal(got, want) {
		t.Errorf("Bytes of (1, 2): %x", got)
	}
	for _, start := range transcripts() {
		if _, l := transcript.Indices(start, "", api.Draw{Limit: 4, Count: 4}); !slices.Equal(l, []int{0, 1, 2, 3}) {
			t.Errorf("4 indices of 4: %v", l)
		}
	}
}

// A transcript whose states, challenges and indices another program has computed.
func TestKnownTranscript(t *testing.T) {
	state := func(x api.Transcript, digits string) {
		t.Helper()
		if x != (api.Transcript{State: digest(digits)}) {
			t.Fatalf("transcript %x, %d", x.State, x.Count)
		}
	}
	state(transcript.New(""), "d41f37b3210b395db03299bd5374da358bd3b33cdddb0ddc7922471884e1a5eb")
	state(transcript.New("certificate"), "4dad5c567874199f15e1654b61b8cd48660028223a95bf8fa4bf475eff65000d")
	x := transcript.Absorb(transcript.New("test"), "root", []byte{1, 2, 3})
	state(x, "93d103583b251cfe24322aa0bb5c6a8132eae857f41fd7ad99f91382b26241f8")
	x = transcript.AbsorbExt(x, "values", []api.Ext{{A: 1, B: 2}, {A: p - 1}})
	state(x, "ca42e7f2d7f4e9ff7d1fb9dc42455e034946c1a763d60693ccb728227baa55ab")
	x = transcript.AbsorbInts(x, "sums", []int64{-1, 5})
	state(x, "f60d822e6c95fa2f64f0062eed36363244945cc601d400c24da8330245ab6820")
	x, a := transcript.Challenge(x, "rho")
	x, b := transcript.Challenge(x, "rho")
	x, l := transcript.Indices(x, "tests", api.Draw{Limit: 100, Count: 10})
	if !slices.Equal(l, []int{23, 33, 39, 45, 50, 58, 68, 71, 82, 93}) || x.Count != 5 {
		t.Errorf("10 indices of 100: %v, Count %d", l, x.Count)
	}
	x, l = transcript.Indices(x, "tests", api.Draw{Limit: 65536, Count: 4})
	if !slices.Equal(l, []int{21239, 35183, 45596, 57640}) || x.Count != 6 {
		t.Errorf("4 indices of 65536: %v, Count %d", l, x.Count)
	}
	x, l = transcript.Indices(x, "tests", api.Draw{Limit: 4, Count: 4})
	if !slices.Equal(l, []int{0, 1, 2, 3}) || x.Count != 10 {
		t.Errorf("4 indices of 4: %v, Count %d", l, x.Count)
	}
	_, c := transcript.Challenge(x, "")
	for i, pair := range [][2]api.Ext{
		{a, {A: 15580604266728229647, B: 1219475992793320871}},
		{b, {A: 999430250819564439, B: 8421971929441599802}},
		{c, {A: 12962596901167737939, B: 9869662695101980924}},
	} {
		if pair[0] != pair[1] {
			t.Errorf("challenge %d: %v, want %v", i, pair[0], pair[1])
		}
	}
}
