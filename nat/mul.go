package nat

import (
	"math/bits"

	"vinculum/api"
)

const maxCut = 1024

// Mul is the product, word by word.
func Mul(x, y Nat) Nat {
	x, y = trimmed(x), trimmed(y)
	if len(x) == 0 || len(y) == 0 {
		return nil
	}
	z := make(Nat, len(x)+len(y))
	for i, w := range x {
		z[i+len(y)] = addTimes(z[i:i+len(y)], y, w)
	}
	return trimmed(z)
}

// addTimes adds y times w to as many words of z, and answers what goes over them.
func addTimes(z, y Nat, w uint64) uint64 {
	var over uint64
	for i, v := range y {
		high, low := bits.Mul64(v, w)
		low, carry := bits.Add64(low, over, 0)
		high += carry
		z[i], carry = bits.Add64(z[i], low, 0)
		over = high + carry
	}
	return over
}

// Karatsuba is the product, by halves, down to so few words.
func Karatsuba(x, y Nat, cut int) (Nat, api.Errno) {
	if cut < 1 || cut > maxCut {
		return nil, api.ErrArg
	}
	return byHalves(trimmed(x), trimmed(y), cut), api.OK
}

// byHalves takes numbers that are trimmed.
func byHalves(x, y Nat, cut int) Nat {
	if len(x) < len(y) {
		x, y = y, x
	}
	if len(y) <= cut {
		return Mul(x, y)
	}
	half := (len(x) + 1) / 2
	if len(y) <= half {
		return halfByWhole(x, y, half, cut)
	}
	return halfByHalf(x, y, half, cut)
}

// halfByWhole cuts x alone: y is too short to have an upper half.
func halfByWhole(x, y Nat, half, cut int) Nat {
	low, high := halves(x, half)
	z := make(Nat, len(x)+len(y))
	copy(z, byHalves(low, y, cut))
	addTo(z[half:], byHalves(high, y, cut))
	return trimmed(z)
}

// halfByHalf takes the product of the halves' differences, not of their sums:
// a sum may be a word longer than a half, and of two words no shorter than
// what was cut, so that a cut of 1 would never be come to.
func halfByHalf(x, y Nat, half, cut int) Nat {
	xLow, xHigh := halves(x, half)
	yLow, yHigh := halves(y, half)
	low := byHalves(xLow, yLow, cut)
	high := byHalves(xHigh, yHigh, cut)

	xApart, xFalls := apart(xLow, xHigh)
	yApart, yFalls := apart(yLow, yHigh)
	cross := byHalves(xApart, yApart, cut)
	middle := Add(low, high)
	if xFalls == yFalls {
		takeFrom(middle, cross)
		middle = trimmed(middle)
	} else {
		middle = Add(middle, cross)
	}

	z := make(Nat, len(x)+len(y))
	copy(z, low)
	copy(z[2*half:], high)
	addTo(z[half:], middle)
	return trimmed(z)
}

// halves are views of x's lowest words, and of the others.
func halves(x Nat, half int) (Nat, Nat) {
	return trimmed(x[:half:half]), trimmed(x[half:len(x):len(x)])
}

// apart is how far two numbers are from each other, and whether the first one
// is the greater.
func apart(x, y Nat) (Nat, bool) {
	falls := Cmp(x, y) > 0
	if falls {
		x, y = y, x
	}
	z := Norm(y)
	takeFrom(z, x)
	return trimmed(z), falls
}
