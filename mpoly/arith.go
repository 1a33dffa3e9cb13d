package mpoly

import (
	"slices"

	"vinculum/api"
	"vinculum/bigint"
	"vinculum/term"
)

// mostProducts is how many terms a product may be the sum of, mostPower is the greatest power.
const (
	mostProducts = 4000000
	mostPower    = 1000
)

// Add is the sum.
func (a Poly) Add(b Poly) (Poly, api.Errno) {
	if !Same(a.ring, b.ring) {
		return Poly{}, api.ErrRing
	}
	return summed(a.ring, slices.Concat(a.terms, b.terms))
}

// Sub is the difference.
func (a Poly) Sub(b Poly) (Poly, api.Errno) { return a.Add(b.Neg()) }

// Neg is 0 less a.
func (a Poly) Neg() Poly {
	b, _ := a.Scale(a.number(-1)) // it has no exponents that might be too great
	return b
}

// number is a term without variables.
func (a Poly) number(n int) Term { return Term{make([]int, len(a.ring.Vars)), bigint.Of(n)} }

// Scale is a, times a term.
func (a Poly) Scale(t Term) (Poly, api.Errno) {
	if err := a.check(t.E); err != api.OK {
		return Poly{}, err
	}
	c := coefficient(a.ring, t.C)
	if c.Sign() == 0 {
		return Poly{ring: a.ring}, api.OK
	}
	// Of numbers that are not 0 none of the products is, and the order is kept.
	list := make([]Term, len(a.terms))
	for i, x := range a.terms {
		e, err := term.Mul(x.E, t.E)
		if err != api.OK {
			return Poly{}, err
		}
		list[i] = Term{e, coefficient(a.ring, x.C.Mul(c))}
	}
	return Poly{a.ring, list}, api.OK
}

// Mul is the product, term by term.
func (a Poly) Mul(b Poly) (Poly, api.Errno) {
	if !Same(a.ring, b.ring) {
		return Poly{}, api.ErrRing
	}
	// The In of 0 is -1, by which no exponent comes to be too great.
	if a.Len()*b.Len() > mostProducts || a.tooHigh(func(v int) int { return a.In(v) + b.In(v) }) {
		return Poly{}, api.ErrLimit
	}
	s := newSum(a.Len() + b.Len()) // two such lists never have fewer sums, less one
	for _, x := range a.terms {
		for _, y := range b.terms {
			e, _ := term.Mul(x.E, y.E)
			s.add(Term{e, x.C.Mul(y.C)})
		}
	}
	return s.poly(a.ring)
}

// tooHigh tells whether there is an exponent that is too great, of a number for each variable.
func (a Poly) tooHigh(of func(v int) int) bool {
	for v := range a.ring.Vars {
		if of(v) > api.MaxExp {
			return true
		}
	}
	return false
}

// Pow is a times itself, n times.
func (a Poly) Pow(n int) (Poly, api.Errno) {
	if n < 0 || n > mostPower {
		return Poly{}, api.ErrArg
	}
	if a.ring.Order == 0 {
		return a, api.OK // of no ring there is no 1 to begin with
	}
	// One of the products would say so at last, but that may take long.
	if a.tooHigh(func(v int) int { return a.In(v) * n }) {
		return Poly{}, api.ErrLimit
	}
	power := Poly{a.ring, []Term{a.number(1)}}
	for range n {
		var err api.Errno
		// One by one, and not by squares: each of them may have too many terms.
		if power, err = power.Mul(a); err != api.OK {
			return Poly{}, err
		}
	}
	return power, api.OK
}
