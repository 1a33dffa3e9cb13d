package brown

import (
	"cmp"
	"slices"

	"vinculum/api"
	"vinculum/bigint"
	"vinculum/mpoly"
)

// seats are the variables that one of two polynomials has, in the order in which they stand
// in a place. The last one is the first that points are put in for.
type seats struct {
	vars   []int
	shared int // how many of them both polynomials have
}

// seatsOf is those of two polynomials that are not 0.
//
// The first one has no points put in for it, and so it is one with high powers. Those of
// one polynomial alone come last, as one point is enough for each. But if there is only one
// that both have, it comes last itself: a common divisor has no other variable then, and so
// it is one of all columns.
func seatsOf(a, b mpoly.Poly) seats {
	var both, one []int
	for v := range a.Ring().Vars {
		switch {
		case min(a.In(v), b.In(v)) > 0:
			both = append(both, v)
		case max(a.In(v), b.In(v)) > 0:
			one = append(one, v)
		}
	}
	if len(both) == 1 {
		return seats{append(one, both...), 1}
	}
	slices.SortStableFunc(both, func(v, w int) int {
		return cmp.Compare(min(a.In(w), b.In(w)), min(a.In(v), b.In(v)))
	})
	return seats{append(both, one...), len(both)}
}

// part is a term at its place.
type part struct {
	at place
	c  bigint.Int
}

// parts are a polynomial's terms, falling by their places.
func (s seats) parts(a mpoly.Poly) []part {
	list := make([]part, 0, a.Len())
	for _, t := range a.Terms() {
		at := place(0)
		for _, v := range s.vars {
			at = at.with(t.E[v])
		}
		list = append(list, part{at, t.C})
	}
	slices.SortFunc(list, func(x, y part) int { return cmp.Compare(y.at, x.at) })
	return list
}

// poly is the polynomial of a ring that has these terms; ErrLimit of too many.
func (s seats) poly(r api.Ring, parts []part) (mpoly.Poly, api.Errno) {
	list := make([]mpoly.Term, len(parts))
	for i, x := range parts {
		e, at := make([]int, len(r.Vars)), x.at
		for _, v := range slices.Backward(s.vars) {
			e[v], at = at.last(), at.above()
		}
		list[i] = mpoly.Term{E: e, C: x.c}
	}
	return mpoly.Make(r, list)
}
