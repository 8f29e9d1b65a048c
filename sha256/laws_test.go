package sha256_test

import (
	"bytes"
	reference "crypto/sha256"
	"slices"
	"sync"
	"testing"

	"attestor/api"
	"attestor/sha256"
)

// P7.1: the functions agree with the standard library on long messages too.
func TestContract(t *testing.T) {
	for _, n := range []int{1000, 4096, 65535, 65536, 1 << 20} {
		b := random(n, uint32(n))
		if sha256.Sum(b) != reference.Sum256(b) {
			t.Errorf("Sum of %d bytes", n)
		}
		if sha256.Leaf(b) != reference.Sum256(append([]byte{0}, b...)) {
			t.Errorf("Leaf of %d bytes", n)
		}
		for _, key := range digests() {
			if sha256.Keyed(key, b) != keyed(key[:], b) {
				t.Errorf("Keyed(%x, %d bytes)", key, n)
			}
		}
	}
}

// P7.2: a message has the digest that the standard library gives to its portions, supplied one after the other.
func TestPortions(t *testing.T) {
	b := random(777, 3)
	got := sha256.Sum(b)
	for n := 1; n <= len(b); n++ {
		h := reference.New()
		for portion := range slices.Chunk(b, n) {
			h.Write(portion)
		}
		if want := api.Digest(h.Sum(nil)); got != want {
			t.Errorf("portions of %d bytes: %x, want %x", n, got, want)
		}
	}
}

// P7.3: Leaf, Pair and Keyed are Sum of their inputs.
func TestDerivedHashes(t *testing.T) {
	for _, b := range messages(150) {
		if got, want := sha256.Leaf(b), sha256.Sum(slices.Concat([]byte{0}, b)); got != want {
			t.Errorf("Leaf(%x): %x, want %x", b, got, want)
		}
		for _, key := range digests() {
			inner, outer := bytes.Repeat([]byte{0x36}, 64), bytes.Repeat([]byte{0x5c}, 64)
			for i, x := range key {
				inner[i] ^= x
				outer[i] ^= x
			}
			d := sha256.Sum(append(inner, b...))
			if got, want := sha256.Keyed(key, b), sha256.Sum(append(outer, d[:]...)); got != want {
				t.Errorf("Keyed(%x, %x): %x, want %x", key, b, got, want)
			}
		}
	}
	for _, a := range digests() {
		for _, b := range digests() {
			if got, want := sha256.Pair(a, b), sha256.Sum(slices.Concat([]byte{1}, a[:], b[:])); got != want {
				t.Errorf("Pair(%x, %x): %x, want %x", a, b, got, want)
			}
		}
	}
}

// P7.4: neither the bytes before and behind a message nor its capacity matter, and all of them stay.
func TestBytesAroundStay(t *testing.T) {
	const before, behind = 70, 200
	for n := range 200 {
		memory := random(before+n+behind, uint32(n))
		was := slices.Clone(memory)
		b := memory[before : before+n]
		alone := slices.Clip(slices.Clone(b))
		for _, key := range digests() {
			if sha256.Keyed(key, b) != sha256.Keyed(key, alone) {
				t.Errorf("Keyed(%x, %d bytes)", key, n)
			}
		}
		if sha256.Sum(b) != sha256.Sum(alone) {
			t.Errorf("Sum of %d bytes", n)
		}
		if sha256.Leaf(b) != sha256.Leaf(alone) {
			t.Errorf("Leaf of %d bytes", n)
		}
		if !bytes.Equal(memory, was) {
			t.Errorf("%d bytes: the memory around the message or the message itself was modified", n)
		}
	}
}

// P1: every call returns.
func TestCallsReturn(t *testing.T) {
	for _, b := range append(messages(130), nil) {
		sha256.Sum(b)
		sha256.Leaf(b)
		for _, key := range digests() {
			sha256.Keyed(key, b)
			sha256.Pair(key, key)
		}
	}
}

// results returns what all functions return for a message and two digests.
func results(b []byte, d api.Digest, e api.Digest) [5]api.Digest {
	return [5]api.Digest{sha256.Sum(b), sha256.Leaf(b), sha256.Pair(d, e), sha256.Keyed(d, b), sha256.Keyed(e, d[:])}
}

// P2: equal arguments have equal results, whatever was called before and is called at the same time.
func TestResultsRepeat(t *testing.T) {
	d, e := api.Digest(random(32, 5)), api.Digest(random(32, 6))
	l := messages(140)
	var first [][5]api.Digest
	for _, b := range l {
		first = append(first, results(b, d, e))
	}
	var wait sync.WaitGroup
	for range 4 {
		wait.Go(func() {
			for i, b := range slices.Backward(l) {
				if results(slices.Clone(b), d, e) != first[i] {
					t.Errorf("message %d has other digests", i)
				}
			}
		})
	}
	wait.Wait()
}

// P2: arguments stay as they are, and results share no memory with them or with each other.
func TestArgumentsStay(t *testing.T) {
	b, d, e := random(200, 1), api.Digest(random(32, 2)), api.Digest(random(32, 3))
	b2, d2, e2 := slices.Clone(b), d, e
	was := results(b, d, e)
	got := was
	if !bytes.Equal(b, b2) || d != d2 || e != e2 {
		t.Error("an argument was modified")
	}
	for i := range got {
		clear(got[i][:])
	}
	if results(b, d, e) != was {
		t.Error("a result was kept")
	}
}
