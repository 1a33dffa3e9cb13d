package calc

import (
	"slices"

	"vinculum/api"
	"vinculum/bigint"
	"vinculum/mpoly"
)

// mostBits is how many bits a power of a number may have.
const mostBits = 64 * api.MaxLimbs

// Eval is the value of a polynomial, each variable being a number.
func Eval(a mpoly.Poly, l []bigint.Int) (bigint.Int, api.Errno) {
	r := a.Ring()
	switch {
	case len(l) != len(r.Vars):
		return bigint.Int{}, api.ErrArg
	case r.P != 0:
		return valueModulo(a, l, modulus(r.P)), api.OK
	}
	// The In of 0 is below 0, by which no power comes to be too great.
	highest := make([]int, len(l))
	for v, x := range l {
		if highest[v] = a.In(v); highest[v]*x.Bits() > mostBits {
			return bigint.Int{}, api.ErrLimit
		}
	}
	return value(a.Terms(), squares(l, highest)), api.OK
}

func valueModulo(a mpoly.Poly, l []bigint.Int, p modulus) bigint.Int {
	words := make([]uint64, len(l))
	for v, x := range l {
		words[v] = p.word(x)
	}
	return number(p.value(a.Terms(), words))
}

// square is a variable's number to the power of one bit of its exponents.
type square struct {
	v, bit int
	number bigint.Int
}

// squares are those of all bits that exponents up to the highest ones may have. The
// variables take turns, the highest bits stand first: so what value adds and multiplies
// has about as many bits on both sides.
func squares(l []bigint.Int, highest []int) []square {
	var list []square
	powers := slices.Clone(l)
	for bit := 1; bit <= api.MaxExp; bit *= 2 {
		for v, x := range powers {
			if bit > highest[v] {
				continue
			}
			if bit > 1 {
				x = x.Mul(x)
			}
			powers[v] = x
			list = append(list, square{v, bit, x})
		}
	}
	slices.Reverse(list)
	return list
}

// value is the sum of terms, of whose exponents those bits alone count that have a square
// here; in no others do they differ. It moves the terms about.
func value(terms []mpoly.Term, by []square) bigint.Int {
	if len(terms) == 0 {
		return bigint.Int{}
	}
	if len(by) == 0 {
		return terms[0].C // exponents that differ in no bit are one
	}
	n := by[0].ahead(terms)
	if n == 0 {
		return value(terms, by[1:])
	}
	with := value(terms[:n], by[1:]).Mul(by[0].number)
	return with.Add(value(terms[n:], by[1:]))
}

// ahead moves the terms whose exponent has the bit ahead of the others, and tells how
// many there are.
func (s square) ahead(terms []mpoly.Term) int {
	n := 0
	for i, t := range terms {
		if t.E[s.v]&s.bit != 0 {
			terms[i], terms[n] = terms[n], t
			n++
		}
	}
	return n
}
