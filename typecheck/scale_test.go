package typecheck

import (
	"math/big"
	"testing"
)

// P14.5: products are recognized as too large, also if they exceed 64 bits and their lower bits are those of a small number.
func TestScale(t *testing.T) {
	limit := new(big.Int).Lsh(big.NewInt(1), 62)
	for _, rows := range []int{0, 1, 2, 3, 65535, 65536} {
		for _, base := range []int{0, 1, 2, 3, 4, 255, 256, 1<<31 - 1, 1 << 31, 1 << 32, 1<<32 + 1, 1<<46 - 1, 1 << 46, 1 << 48, 1 << 61, 1<<62 - 1} {
			for exponent := 1; exponent <= 6; exponent++ {
				want := new(big.Int).Exp(big.NewInt(int64(base)), big.NewInt(int64(exponent)), nil)
				want.Mul(want, big.NewInt(int64(rows)))
				fits := want.Cmp(limit) < 0
				got, ok := scale(rows, base, exponent)
				if ok != fits || ok && got != want.Int64() {
					t.Errorf("scale(%d, %d, %d) = %d, %v, want %v, %v", rows, base, exponent, got, ok, want, fits)
				}
			}
		}
	}
}
