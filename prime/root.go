package prime

import (
	"math/bits"

	"vinculum/api"
	"vinculum/word"
)

// field is the numbers modulo p, and how many times 2 divides p less 1.
func field(p uint64) (f *word.Field, twos int, err api.Errno) {
	if p >= api.MaxWord || !Is(p) {
		return nil, 0, api.ErrPrime
	}
	f, err = word.New(p)
	return f, bits.TrailingZeros64(p - 1), err
}

// Root is a number whose order modulo a prime is 2 to the kth.
func Root(p uint64, k int) (uint64, api.Errno) {
	f, twos, err := field(p)
	if err != api.OK {
		return 0, err
	}
	if k < 0 || k > twos {
		return 0, api.ErrArg
	}
	// This ends: every second x below p, and for k 0 the first one, has such a power.
	x := uint64(1)
	for {
		y := f.Pow(x, (p-1)>>k)
		if squares(f, y, k) == k {
			return y, api.OK
		}
		x++
	}
}

// Order is the k for which the order of a number modulo a prime is 2 to the kth.
func Order(p, x uint64) (int, api.Errno) {
	f, twos, err := field(p)
	if err != api.OK {
		return 0, err
	}
	y := f.Of(x)
	if y == 0 {
		return 0, api.ErrArg
	}
	// Every order divides p less 1: if so many squares do not lead to 1, none do.
	k := squares(f, y, twos)
	if k > twos {
		return 0, api.ErrNone
	}
	return k, api.OK
}

// squares is how many times y, below the field's word, must be squared to be 1:
// one more than most, if it is not 1 after most of them.
func squares(f *word.Field, y uint64, most int) int {
	k := 0
	for y != 1 && k <= most {
		y = f.Mul(y, y)
		k++
	}
	return k
}
