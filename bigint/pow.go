package bigint

import (
	"math/bits"

	"vinculum/api"
)

const maxPowerBits = 64 * api.MaxLimbs

// Pow is x times itself, n times.
func (x Int) Pow(n int) (Int, api.Errno) {
	if n < 0 {
		return Int{}, api.ErrArg
	}
	// The bits are not taken times n: that might go beyond the ints.
	if x.Sign() != 0 && n > maxPowerBits/x.Bits() {
		return Int{}, api.ErrLimit
	}
	return power(x, n), api.OK
}

// power goes through n's bits from the highest one on: so that it is always x
// itself by which a square is multiplied.
func power(x Int, n int) Int {
	z := Of(1)
	for i := bits.Len(uint(n)) - 1; i >= 0; i-- {
		z = z.Mul(z)
		if n>>i&1 != 0 {
			z = z.Mul(x)
		}
	}
	return z
}
