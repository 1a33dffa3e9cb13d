package nat

import "math/bits"

// leap is several of Euclid's steps at once: of x and y they leave
// a times x less b times y, and d times y less c times x, or, if turned, 0 less
// these. (No steps, if b is 0.)
type leap struct {
	a, b, c, d uint64
	turned     bool
}

// Gcd is the greatest number that divides both.
func Gcd(x, y Nat) Nat {
	x, y = Norm(x), Norm(y)
	if Cmp(x, y) < 0 {
		x, y = y, x
	}
	for len(y) > 1 {
		x, y = euclid(x, y)
	}
	if len(y) == 0 {
		return x
	}
	_, left, _ := DivWord(x, y[0])
	return Nat{gcdOfWords(y[0], left)}
}

func gcdOfWords(x, y uint64) uint64 {
	for y != 0 {
		x, y = y, x%y
	}
	return x
}

// euclid is one of Euclid's steps or more. y has two words or more, and x is no
// less than it; so it is with what is answered, but that its second may be short.
func euclid(x, y Nat) (Nat, Nat) {
	l := leapOf(heads(x, y))
	if l.b == 0 {
		_, left, _ := DivMod(x, y)
		return y, left
	}
	if l.turned {
		return timesLess(y, l.b, x, l.a), timesLess(x, l.c, y, l.d)
	}
	return timesLess(x, l.a, y, l.b), timesLess(y, l.d, x, l.c)
}

// heads are the 64 highest bits of x, and what y has at their places.
func heads(x, y Nat) (uint64, uint64) {
	n := len(x)
	up := uint(bits.LeadingZeros64(x[n-1]))
	down := wordBits - up
	return x[n-1]<<up | x[n-2]>>down, wordAt(y, n-1)<<up | wordAt(y, n-2)>>down
}

func wordAt(x Nat, i int) uint64 {
	if i >= len(x) {
		return 0
	}
	return x[i]
}

// leapOf is Lehmer's way: as long as Collins's condition holds, the heads tell
// the same quotients as the whole numbers do, all but the last one. So the row
// behind c and d, to which that one leads, is not answered.
func leapOf(x, y uint64) leap {
	l := leap{c: 1, turned: true}
	var e, f uint64 = 0, 1
	for y >= f && x-y >= l.d+f {
		q := x / y
		x, y = y, x%y
		l.a, l.c, e = l.c, e, l.c+q*e
		l.b, l.d, f = l.d, f, l.d+q*f
		l.turned = !l.turned
	}
	return l
}

// timesLess is a times x less b times y, which must not be below 0.
func timesLess(x Nat, a uint64, y Nat, b uint64) Nat {
	z := make(Nat, max(len(x), len(y))+1)
	z[len(x)] = addTimes(z[:len(x)], x, a)
	over := takeTimes(z[:len(y)], y, b)
	takeFrom(z[len(y):], Nat{over})
	return trimmed(z)
}
