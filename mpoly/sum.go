package mpoly

import (
	"slices"

	"vinculum/api"
	"vinculum/bigint"
	"vinculum/term"
)

// bytesOf is how many bytes hold an exponent.
const bytesOf = 3

// sum is terms that are added, in any order, over the integers: a term's numbers are
// taken modulo a prime but once, when all of them are there.
type sum struct {
	places map[string]int // where the term of a text stands
	terms  []Term
	text   [bytesOf * api.MaxVars]byte // kept, so that a term that is there already costs no new text
}

// newSum is one without terms, with room for so many.
func newSum(many int) *sum {
	return &sum{places: make(map[string]int, many), terms: make([]Term, 0, many)}
}

// add takes a term, and keeps its list.
func (s *sum) add(t Term) {
	text := textOf(s.text[:0], t.E)
	if place, there := s.places[string(text)]; there {
		s.terms[place].C = s.terms[place].C.Add(t.C)
		return
	}
	s.places[string(text)] = len(s.terms)
	s.terms = append(s.terms, t)
}

// textOf puts exponents behind a text: those of as many variables are the same just
// if their texts are.
func textOf(text []byte, e []int) []byte {
	for _, x := range e {
		text = append(text, byte(x>>16), byte(x>>8), byte(x))
	}
	return text
}

// poly is the polynomial of a ring that the terms come to, if it has not too many.
func (s *sum) poly(r api.Ring) (Poly, api.Errno) {
	list := make([]Term, 0, min(len(s.terms), api.MaxTerms))
	for _, t := range s.terms {
		c := coefficient(r, t.C)
		if c.Sign() == 0 {
			continue
		}
		if len(list) == api.MaxTerms {
			return Poly{}, api.ErrLimit
		}
		list = append(list, Term{t.E, c})
	}
	slices.SortFunc(list, order(r.Order).falling)
	return Poly{r, list}, api.OK
}

// coefficient is a number as one of the ring's.
func coefficient(r api.Ring, c bigint.Int) bigint.Int {
	if r.P == 0 {
		return c
	}
	left, _ := c.Mod(r.P)
	return bigint.Of(int(left)) // it is below 2 to the 63rd, as P is
}

// order is one of a ring.
type order int

// falling is -1, 0 or 1: x stands ahead of y, is at the same place, stands behind it.
func (o order) falling(x, y Term) int {
	c, _ := term.Cmp(int(o), y.E, x.E)
	return c
}

// summed is the sum of terms of a ring. It keeps their lists.
func summed(r api.Ring, l []Term) (Poly, api.Errno) {
	s := newSum(len(l))
	for _, t := range l {
		s.add(t)
	}
	return s.poly(r)
}
