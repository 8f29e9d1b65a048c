package sha256

import (
	"crypto/sha256"
	"testing"

	"attestor/api"
)

// message returns n bytes without a pattern.
func message(n int) []byte {
	b := make([]byte, n)
	x := uint32(n) + 1
	for i := range b {
		x = 1664525*x + 1013904223
		b[i] = byte(x >> 24)
	}
	return b
}

// P7.2: a message that is supplied in two portions, cut anywhere, has the digest of the whole.
func TestTwoPortions(t *testing.T) {
	for _, n := range []int{0, 1, 55, 56, 63, 64, 65, 127, 128, 129, 200, 260} {
		b := message(n)
		want := api.Digest(sha256.Sum256(b))
		for i := range n + 1 {
			if got := hash(b[:i], b[i:]); got != want {
				t.Errorf("%d bytes cut at %d: %x, want %x", n, i, got, want)
			}
		}
	}
}

// P7.2: so does one in three portions.
func TestThreePortions(t *testing.T) {
	b := message(150)
	want := api.Digest(sha256.Sum256(b))
	for i := range len(b) + 1 {
		for j := i; j <= len(b); j++ {
			if got := hash(b[:i], b[i:j], b[j:]); got != want {
				t.Fatalf("cut at %d and %d: %x, want %x", i, j, got, want)
			}
		}
	}
}

// P7.2: so does one in portions of equal lengths, with empty ones between them, and one in no portion at all.
func TestManyPortions(t *testing.T) {
	b := message(400)
	want := api.Digest(sha256.Sum256(b))
	for n := 1; n <= 130; n++ {
		portions := [][]byte{nil}
		for rest := b; len(rest) > 0; rest = rest[min(n, len(rest)):] {
			portions = append(portions, rest[:min(n, len(rest))], []byte{})
		}
		if got := hash(portions...); got != want {
			t.Errorf("portions of %d bytes: %x, want %x", n, got, want)
		}
	}
	if got := hash(); got != sha256.Sum256(nil) {
		t.Errorf("no portions: %x", got)
	}
}

// P7.2: the digest is the last of the chains that compressing one block after the other gives, from the initial one on.
func TestBlocksInOrder(t *testing.T) {
	b := message(64*5 + 20)
	all := append(append([]byte(nil), b...), padding(uint64(len(b)))...)
	last := initialChain
	for i := 0; i < len(all); i += blockSize {
		last = compress(last, all[i:i+blockSize])
	}
	if got := Sum(b); got != last.digest() {
		t.Errorf("Sum: %x, want %x", got, last.digest())
	}
}

// G1: the padding is the byte 0x80, the smallest number of zero bytes and the number of bits, also where that number takes all of its bytes.
func TestPadding(t *testing.T) {
	for _, length := range []uint64{0, 1, 54, 55, 56, 57, 63, 64, 119, 120, 1<<29 - 1, 1 << 29, 1<<31 - 1, 1 << 31, 1<<31 + 63, 0x0123456789abcdef} {
		end := padding(length)
		n := len(end)
		if (length+uint64(n))%64 != 0 || n < 9 || n > 72 || end[0] != 0x80 {
			t.Errorf("padding of %d bytes: %x", length, end)
			continue
		}
		for i, x := range end[1 : n-8] {
			if x != 0 {
				t.Errorf("padding of %d bytes: byte %d is %x", length, i+1, x)
			}
		}
		bits := uint64(0)
		for _, x := range end[n-8:] {
			bits = bits<<8 | uint64(x)
		}
		if bits != 8*length {
			t.Errorf("padding of %d bytes: %d bits", length, bits)
		}
	}
}

// P7.2: the blocks of a message may be read up to any of them, and those behind it are not produced.
func TestBlocksStop(t *testing.T) {
	portions := padded([][]byte{message(100), message(300)})
	for most := 1; most <= 7; most++ {
		n := 0
		for block := range blocks(portions) {
			if len(block) != blockSize {
				t.Errorf("block %d has %d bytes", n, len(block))
			}
			n++
			if n == most {
				break
			}
		}
		if n != most {
			t.Errorf("%d blocks, want %d", n, most)
		}
	}
}
