package sha256_test

import (
	"bytes"
	"crypto/hmac"
	reference "crypto/sha256"
	"encoding/hex"
	"testing"

	"attestor/api"
	"attestor/sha256"
)

// digestOf returns the digest that the hexadecimal digits describe.
func digestOf(digits string) api.Digest {
	b, err := hex.DecodeString(digits)
	if err != nil || len(b) != len(api.Digest{}) {
		panic("not a digest: " + digits)
	}
	return api.Digest(b)
}

// random returns n bytes without a pattern.
func random(n int, seed uint32) []byte {
	b := make([]byte, n)
	x := seed
	for i := range b {
		x = 1664525*x + 1013904223
		b[i] = byte(x >> 24)
	}
	return b
}

// messages returns messages of every length up to most: bytes without a pattern, and such that are all equal.
func messages(most int) [][]byte {
	var l [][]byte
	for n := range most + 1 {
		l = append(l, random(n, uint32(n)), make([]byte, n), bytes.Repeat([]byte{0x80}, n), bytes.Repeat([]byte{0xff}, n))
	}
	return l
}

// digests returns digests of all kinds.
func digests() []api.Digest {
	l := []api.Digest{{}, api.Digest(bytes.Repeat([]byte{0xff}, 32)), api.Digest(bytes.Repeat([]byte{0x36}, 32)), api.Digest(bytes.Repeat([]byte{0x5c}, 32)), {0: 1}, {31: 1}}
	for i := range uint32(4) {
		l = append(l, api.Digest(random(32, i)))
	}
	return l
}

// keyed returns the HMAC of b by the standard library.
func keyed(key []byte, b []byte) api.Digest {
	h := hmac.New(reference.New, key)
	h.Write(b)
	return api.Digest(h.Sum(nil))
}

// G1: the examples of the chapter, and those of FIPS 180.
func TestSumOfExamples(t *testing.T) {
	for _, x := range []struct {
		message string
		want    string
	}{
		{"abc", "ba7816bf8f01cfea414140de5dae2223b00361a396177a9cb410ff61f20015ad"},
		{"", "e3b0c44298fc1c149afbf4c8996fb92427ae41e4649b934ca495991b7852b855"},
		{"abcdbcdecdefdefgefghfghighijhijkijkljklmklmnlmnomnopnopq", "248d6a61d20638b8e5c026930c3e6039a33ce45964ff2167f6ecedd419db06c1"},
		{"abcdefghbcdefghicdefghijdefghijkefghijklfghijklmghijklmnhijklmnoijklmnopjklmnopqklmnopqrlmnopqrsmnopqrstnopqrstu", "cf5b16a778af8380036ce59e7b0492370b249b11e8f07a51afac45037afee9d1"},
	} {
		if got := sha256.Sum([]byte(x.message)); got != digestOf(x.want) {
			t.Errorf("Sum of %q: %x, want %s", x.message, got, x.want)
		}
	}
	million := bytes.Repeat([]byte("a"), 1000000)
	if got := sha256.Sum(million); got != digestOf("cdc76e5c9914fb9281a1c7e284d73e67f1809a48a497200e046d39ccc7112cd0") {
		t.Errorf("Sum of a million a: %x", got)
	}
}

// G2: the examples of the chapter.
func TestTreeExamples(t *testing.T) {
	if got := sha256.Leaf(nil); got != digestOf("6e340b9cffb37a989ca544e6bb780a2c78901d3fb33738768511a30617afa01d") {
		t.Errorf("Leaf of no bytes: %x", got)
	}
	if got := sha256.Pair(api.Digest{}, api.Digest{}); got != digestOf("ae0798d0ecaed2b778eddebf18f071a561c53658c05e76cedecc27cafbdbc577") {
		t.Errorf("Pair of two zero digests: %x", got)
	}
}

// G3: those examples of RFC 4231 whose keys have at most 32 bytes; HMAC does not tell a key from the same key with zero bytes behind it.
func TestKeyedExamples(t *testing.T) {
	for _, x := range []struct {
		key     []byte
		message []byte
		want    string
	}{
		{bytes.Repeat([]byte{0x0b}, 20), []byte("Hi There"), "b0344c61d8db38535ca8afceaf0bf12b881dc200c9833da726e9376c2e32cff7"},
		{[]byte("Jefe"), []byte("what do ya want for nothing?"), "5bdcc146bf60754e6a042426089575c75a003f089d2739839dec58b964ec3843"},
		{bytes.Repeat([]byte{0xaa}, 20), bytes.Repeat([]byte{0xdd}, 50), "773ea91e36800e46854db8ebd09181a72959098b3ef8c122d9635514ced565fe"},
		{[]byte("\x01\x02\x03\x04\x05\x06\x07\x08\x09\x0a\x0b\x0c\x0d\x0e\x0f\x10\x11\x12\x13\x14\x15\x16\x17\x18\x19"), bytes.Repeat([]byte{0xcd}, 50), "82558a389a443c0ea4cc819899f2083a85f0faa3e578f8077a2e3ff46729665b"},
	} {
		var key api.Digest
		copy(key[:], x.key)
		if got := sha256.Keyed(key, x.message); got != digestOf(x.want) {
			t.Errorf("Keyed(%x, %x): %x, want %s", key, x.message, got, x.want)
		}
	}
}

// G1: messages of every length around the ends of blocks have the digests of FIPS 180-4.
func TestSumOfEveryLength(t *testing.T) {
	for _, b := range messages(520) {
		if got, want := sha256.Sum(b), api.Digest(reference.Sum256(b)); got != want {
			t.Errorf("Sum of %d bytes: %x, want %x", len(b), got, want)
		}
	}
}

// G1: a change of any single bit of a message changes its digest as FIPS 180-4 says.
func TestSumOfSingleBits(t *testing.T) {
	for _, n := range []int{1, 55, 64, 100} {
		for bit := range 8 * n {
			b := make([]byte, n)
			b[bit/8] = 1 << (bit % 8)
			if got, want := sha256.Sum(b), api.Digest(reference.Sum256(b)); got != want {
				t.Errorf("Sum of %d bytes with bit %d: %x, want %x", n, bit, got, want)
			}
		}
	}
}

// G1: the number of bits of a long message takes more than 32 bits.
func TestSumOfLongMessage(t *testing.T) {
	b := make([]byte, 1<<29+3)
	copy(b, random(5000, 7))
	copy(b[len(b)-5000:], random(5000, 8))
	if got, want := sha256.Sum(b), api.Digest(reference.Sum256(b)); got != want {
		t.Errorf("Sum of %d bytes: %x, want %x", len(b), got, want)
	}
}

// G1, G2, G3: nil is the message of no bytes.
func TestNilIsEmpty(t *testing.T) {
	if sha256.Sum(nil) != sha256.Sum([]byte{}) {
		t.Error("Sum")
	}
	if sha256.Leaf(nil) != sha256.Leaf([]byte{}) {
		t.Error("Leaf")
	}
	for _, key := range digests() {
		if sha256.Keyed(key, nil) != sha256.Keyed(key, []byte{}) {
			t.Errorf("Keyed with %x", key)
		}
	}
}

// G2: a leaf is hashed after the byte 0x00.
func TestLeafOfEveryLength(t *testing.T) {
	for _, b := range messages(300) {
		want := api.Digest(reference.Sum256(append([]byte{0}, b...)))
		if got := sha256.Leaf(b); got != want {
			t.Errorf("Leaf of %d bytes: %x, want %x", len(b), got, want)
		}
	}
}

// G2: an inner node is hashed after the byte 0x01, its left half first.
func TestPairOfDigests(t *testing.T) {
	for _, a := range digests() {
		for _, b := range digests() {
			input := append(append([]byte{1}, a[:]...), b[:]...)
			if got, want := sha256.Pair(a, b), api.Digest(reference.Sum256(input)); got != want {
				t.Errorf("Pair(%x, %x): %x, want %x", a, b, got, want)
			}
		}
	}
}

// G2: leaves, inner nodes and plain messages with the same bytes have different digests, and so have the two orders of a pair.
func TestDomainsAreSeparate(t *testing.T) {
	a, b := api.Digest(random(32, 1)), api.Digest(random(32, 2))
	both := append(append([]byte(nil), a[:]...), b[:]...)
	seen := map[api.Digest]string{}
	for name, d := range map[string]api.Digest{"Sum": sha256.Sum(both), "Leaf": sha256.Leaf(both), "Pair": sha256.Pair(a, b), "Pair in the other order": sha256.Pair(b, a)} {
		if other, ok := seen[d]; ok {
			t.Errorf("%s and %s have the digest %x", name, other, d)
		}
		seen[d] = name
	}
}

// G3: Keyed is the HMAC of RFC 2104, for messages of every length around the ends of blocks.
func TestKeyedOfEveryLength(t *testing.T) {
	for _, b := range messages(200) {
		for _, key := range digests() {
			if got, want := sha256.Keyed(key, b), keyed(key[:], b); got != want {
				t.Errorf("Keyed(%x, %d bytes): %x, want %x", key, len(b), got, want)
			}
		}
	}
}
