package nat

import (
	"math/bits"

	"vinculum/api"
)

const (
	wordBits = 64
	maxMove  = wordBits * api.MaxLimbs
)

// Shl is x moved up by bits.
func Shl(x Nat, n int) (Nat, api.Errno) {
	if n < 0 {
		return nil, api.ErrArg
	}
	if n > maxMove {
		return nil, api.ErrLimit
	}
	x = trimmed(x)
	words := n / wordBits
	z := make(Nat, words+len(x)+1)
	moveUp(z[words:], x, uint(n%wordBits))
	return trimmed(z), api.OK
}

// Shr is x moved down by bits.
func Shr(x Nat, n int) (Nat, api.Errno) {
	if n < 0 {
		return nil, api.ErrArg
	}
	x = trimmed(x)
	words := n / wordBits
	if words >= len(x) {
		return nil, api.OK
	}
	z := make(Nat, len(x)-words)
	moveDown(z, x[words:], uint(n%wordBits))
	return trimmed(z), api.OK
}

// Bits is how many bits x has.
func Bits(x Nat) int {
	x = trimmed(x)
	if len(x) == 0 {
		return 0
	}
	return wordBits*(len(x)-1) + bits.Len64(x[len(x)-1])
}

// moveUp fills z, which has one word more than x, with x moved up by less than
// a word. (A word that is moved by all its 64 bits is 0.)
func moveUp(z, x Nat, n uint) {
	var below uint64
	for i, w := range x {
		z[i] = w<<n | below>>(wordBits-n)
		below = w
	}
	z[len(x)] = below >> (wordBits - n)
}

// moveDown fills z, which has as many words as x, with x moved down by less
// than a word.
func moveDown(z, x Nat, n uint) {
	var above uint64
	for i := len(x) - 1; i >= 0; i-- {
		z[i] = x[i]>>n | above<<(wordBits-n)
		above = x[i]
	}
}
