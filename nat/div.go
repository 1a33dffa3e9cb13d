package nat

import (
	"math"
	"math/bits"

	"vinculum/api"
)

// DivMod is how many times y goes into x, and what is left.
func DivMod(x, y Nat) (Nat, Nat, api.Errno) {
	x, y = trimmed(x), trimmed(y)
	if len(y) == 0 {
		return nil, nil, api.ErrDivZero
	}
	if Cmp(x, y) < 0 {
		return nil, Norm(x), api.OK
	}
	if len(y) == 1 {
		q, left, err := DivWord(x, y[0])
		return q, Norm(Nat{left}), err
	}
	q, left := divLong(x, y)
	return q, left, api.OK
}

// DivWord is that of one word.
func DivWord(x Nat, w uint64) (Nat, uint64, api.Errno) {
	if w == 0 {
		return nil, 0, api.ErrDivZero
	}
	q := Norm(x)
	left := divBy(q, w)
	return trimmed(q), left, api.OK
}

// divBy divides z by w, which is not 0, in its place, and answers what is left.
func divBy(z Nat, w uint64) uint64 {
	var left uint64
	for i := len(z) - 1; i >= 0; i-- {
		z[i], left = bits.Div64(left, z[i], w)
	}
	return left
}

// divLong is Knuth's algorithm D. Both are trimmed, y has two words or more,
// and x is no less than it.
func divLong(x, y Nat) (Nat, Nat) {
	// Guesses are good only by a divisor whose highest bit is set.
	n := uint(bits.LeadingZeros64(y[len(y)-1]))
	divisor := make(Nat, len(y)+1)
	moveUp(divisor, y, n)
	divisor = trimmed(divisor)
	left := make(Nat, len(x)+1)
	moveUp(left, x, n)

	q := make(Nat, len(left)-len(divisor))
	for i := len(q) - 1; i >= 0; i-- {
		q[i] = takeDigit(left[i:i+len(divisor)+1], divisor)
	}
	rest := make(Nat, len(y))
	moveDown(rest, left[:len(y)], n)
	return trimmed(q), trimmed(rest)
}

// takeDigit takes y off part as often as it goes, and answers how often that
// is. part has one word more than y, and is below y times 2 to the 64th.
func takeDigit(part, y Nat) uint64 {
	n := len(y)
	digit := guessDigit(part, y)
	over := takeTimes(part[:n], y, digit)
	if over > part[n] {
		digit--
		addBack(part[:n], y)
	}
	part[n] = 0
	return digit
}

// guessDigit is how often y goes into part, or one more: it looks at three
// words of part and at two of y alone.
func guessDigit(part, y Nat) uint64 {
	n := len(y)
	first, second := y[n-1], y[n-2]
	if part[n] == first {
		return math.MaxUint64
	}
	guess, left := bits.Div64(part[n], part[n-1], first)
	for {
		high, low := bits.Mul64(guess, second)
		if high < left || high == left && low <= part[n-2] {
			return guess
		}
		guess--
		sum, carry := bits.Add64(left, first, 0)
		if carry != 0 {
			return guess
		}
		left = sum
	}
}

// takeTimes takes y times w off as many words of z, and answers what is still
// to be taken off what stands above them.
func takeTimes(z, y Nat, w uint64) uint64 {
	var over uint64
	for i, v := range y {
		high, low := bits.Mul64(v, w)
		low, carry := bits.Add64(low, over, 0)
		high += carry
		z[i], carry = bits.Sub64(z[i], low, 0)
		over = high + carry
	}
	return over
}

// addBack adds y to as many words of z. What goes over them makes up for what
// was borrowed, and is dropped.
func addBack(z, y Nat) {
	var carry uint64
	for i, w := range y {
		z[i], carry = bits.Add64(z[i], w, carry)
	}
}
