// Package nat is layer 1: see shared/doc/01-nat.md.
package nat

import (
	"cmp"
	"math/bits"

	"vinculum/api"
)

// Nat is a number from 0 on: words of 64 bits, the lowest one first.
type Nat []uint64

// Norm is the same number without words 0 at its end.
func Norm(x Nat) Nat {
	x = trimmed(x)
	z := make(Nat, len(x))
	copy(z, x)
	return z
}

// Cmp is -1, 0 or 1: x is below y, is y, is above it.
func Cmp(x, y Nat) int {
	x, y = trimmed(x), trimmed(y)
	if len(x) != len(y) {
		return cmp.Compare(len(x), len(y))
	}
	for i := len(x) - 1; i >= 0; i-- {
		if x[i] != y[i] {
			return cmp.Compare(x[i], y[i])
		}
	}
	return 0
}

// Add is the sum.
func Add(x, y Nat) Nat {
	x, y = trimmed(x), trimmed(y)
	if len(x) < len(y) {
		x, y = y, x
	}
	z := make(Nat, len(x)+1)
	copy(z, x)
	addTo(z, y)
	return trimmed(z)
}

// Sub is x less y.
func Sub(x, y Nat) (Nat, api.Errno) {
	if Cmp(x, y) < 0 {
		return nil, api.ErrArg
	}
	z := Norm(x)
	takeFrom(z, trimmed(y))
	return trimmed(z), api.OK
}

// trimmed is a view of x, not a copy. Its capacity ends with it, so that an
// answer that is cut so keeps nothing behind its length.
func trimmed(x Nat) Nat {
	n := len(x)
	for n > 0 && x[n-1] == 0 {
		n--
	}
	return x[:n:n]
}

// addTo adds y to z, which must have room for the sum.
func addTo(z, y Nat) {
	var carry uint64
	for i, w := range y {
		z[i], carry = bits.Add64(z[i], w, carry)
	}
	for i := len(y); carry != 0; i++ {
		z[i], carry = bits.Add64(z[i], 0, carry)
	}
}

// takeFrom takes y, which must not be greater, off z.
func takeFrom(z, y Nat) {
	var borrow uint64
	for i, w := range y {
		z[i], borrow = bits.Sub64(z[i], w, borrow)
	}
	for i := len(y); borrow != 0; i++ {
		z[i], borrow = bits.Sub64(z[i], 0, borrow)
	}
}
