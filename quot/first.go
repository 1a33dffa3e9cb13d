package quot

import (
	"vinculum/api"
	"vinculum/bigint"
	"vinculum/mpoly"
	"vinculum/term"
	"vinculum/word"
)

// first is the first term of what one divides by.
type first struct {
	e       []int
	c       bigint.Int  // over the integers
	field   *word.Field // nil over the integers
	inverse uint64      // of the coefficient, in the field
}

// firstOf is that of a ring's polynomial.
func firstOf(r api.Ring, t mpoly.Term) first {
	if r.P == 0 {
		return first{e: t.E, c: t.C}
	}
	field, _ := word.New(r.P) // each prime of a ring is such a word
	c, _ := t.C.Mod(r.P)
	inverse, _ := field.Inv(c) // a term's coefficient is not 0
	return first{e: t.E, field: field, inverse: inverse}
}

// into is another term, divided by it, if it goes into that one.
func (f first) into(t mpoly.Term) (mpoly.Term, bool) {
	e, err := term.Div(t.E, f.e)
	if err != api.OK {
		return mpoly.Term{}, false
	}
	c, err := f.quotient(t.C)
	return mpoly.Term{E: e, C: c}, err == api.OK
}

// quotient is a coefficient, divided by that of the term, if that goes up.
func (f first) quotient(c bigint.Int) (bigint.Int, api.Errno) {
	if f.field == nil {
		return c.Exact(f.c)
	}
	w, _ := c.Mod(f.field.M())
	return number(f.field.Mul(w, f.inverse)), api.OK
}

// number is that of a word below a ring's prime, and so below 2 to the 63rd.
func number(w uint64) bigint.Int { return bigint.Of(int(w)) }

// isUnit tells whether the coefficient divides all others.
func (f first) isUnit() bool { return f.field != nil || f.c.Bits() == 1 }

// squared is its square, if that has exponents that may be.
func (f first) squared() (first, bool) {
	e, err := term.Mul(f.e, f.e)
	if err != api.OK {
		return first{}, false
	}
	// Over the integers the field is nil, which makes 0; over a field c is 0.
	return first{e, f.c.Mul(f.c), f.field, f.field.Mul(f.inverse, f.inverse)}, true
}

// intoAll is all terms of a list, divided by it, if it goes into each.
func (f first) intoAll(a []mpoly.Term) ([]mpoly.Term, bool) {
	quotients := make([]mpoly.Term, 0, len(a))
	for _, t := range a {
		x, goes := f.into(t)
		if !goes {
			return nil, false
		}
		quotients = append(quotients, x)
	}
	return quotients, true
}

// often is how often it goes into all terms of a list, and what is left of them then. It
// goes by squares, and these by theirs: x goes into a list a million times, if need be.
func (f first) often(a []mpoly.Term) (int, []mpoly.Term) {
	if _, goes := f.intoAll(a); !goes {
		return 0, a
	}
	n := 0
	if square, is := f.squared(); is {
		n, a = square.often(a)
	}
	if quotients, goes := f.intoAll(a); goes {
		return 2*n + 1, quotients
	}
	return 2 * n, a
}
