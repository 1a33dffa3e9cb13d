package crt

import (
	"vinculum/api"
	"vinculum/bigint"
	"vinculum/nat"
	"vinculum/word"
)

// mostWords is how many numbers Lift joins.
const mostWords = 1024

// Lift is the least number from 0 on that leaves these, and the product of all words.
func Lift(l, m []uint64) (bigint.Int, bigint.Int, api.Errno) {
	switch {
	case len(l) != len(m) || !allMayBe(m):
		return bigint.Int{}, bigint.Int{}, api.ErrArg
	case len(m) > mostWords:
		return bigint.Int{}, bigint.Int{}, api.ErrLimit
	}
	return joined(l, m)
}

// joined takes one word after the other, and stops at the first that has a
// divisor in common with those ahead of it: a prime that divides their product
// divides one of them.
func joined(l, m []uint64) (bigint.Int, bigint.Int, api.Errno) {
	x, all, err := bigint.Of(0), bigint.Of(1), api.OK
	for i := 0; ; i++ {
		if i == len(m) || err != api.OK {
			goto done
		}
		x, all, err = further(x, all, l[i], m[i])
	}
done:
	return x, all, err
}

// Step is a number that leaves what x does by all, and r by a word.
func Step(x, all bigint.Int, r, m uint64) (bigint.Int, bigint.Int, api.Errno) {
	if all.Sign() < 1 || mayNotBe(m) {
		return bigint.Int{}, bigint.Int{}, api.ErrArg
	}
	_, left, _ := x.DivMod(all)
	return further(left, all, r, m)
}

// further is Step for an x from 0 to all less 1, and for arguments that may be.
func further(x, all bigint.Int, r, m uint64) (bigint.Int, bigint.Int, api.Errno) {
	f, _ := word.New(m)
	allLeft, _ := all.Mod(m)
	inverse, err := f.Inv(allLeft)
	if err != api.OK {
		// ErrDivZero, too, is a divisor that both have: m itself.
		return bigint.Int{}, bigint.Int{}, api.ErrInexact
	}
	xLeft, _ := x.Mod(m)
	// x and fewer than m times all stays below all times m, and so is the least.
	times := f.Mul(f.Sub(r, xLeft), inverse)
	return x.Add(all.Mul(ofWord(times))), all.Mul(ofWord(m)), api.OK
}

func ofWord(w uint64) bigint.Int { return bigint.From(false, nat.Nat{w}) }
