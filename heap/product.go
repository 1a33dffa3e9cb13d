package heap

import (
	"slices"

	"vinculum/api"
	"vinculum/mpoly"
)

// mostProducts is how many terms a product may be the sum of.
const mostProducts = 4000000

// Mul is the product, by a heap.
func Mul(a, b mpoly.Poly) (mpoly.Poly, api.Errno) {
	if err := check(a, b); err != api.OK {
		return mpoly.Poly{}, err
	}
	return poly(a.Ring(), products(a.Terms(), b.Terms()))
}

// check is what is wrong with a product, as far as it is seen ahead of it.
func check(a, b mpoly.Poly) api.Errno {
	r := a.Ring()
	if !mpoly.Same(r, b.Ring()) {
		return api.ErrRing
	}
	if a.Len()*b.Len() > mostProducts {
		return api.ErrLimit
	}
	for v := range r.Vars {
		if a.In(v)+b.In(v) > api.MaxExp { // the In of 0 is -1, and with that it never is
			return api.ErrLimit
		}
	}
	return api.OK
}

// poly is the polynomial of a ring that rows come to.
func poly(r api.Ring, rows []*row) (mpoly.Poly, api.Errno) {
	if r.Order == 0 {
		return mpoly.Poly{}, api.OK // of the zero Ring, which Make does not take, there is 0 alone
	}
	list, err := summed(r, rows)
	if err != api.OK {
		return mpoly.Poly{}, err
	}
	return mpoly.Make(r, list)
}

// Dot is the sum of products, by one heap.
func Dot(a, b []mpoly.Poly) (mpoly.Poly, api.Errno) {
	if len(a) != len(b) || len(a) == 0 {
		return mpoly.Poly{}, api.ErrArg
	}
	var rows []*row
	for i := range a {
		more, err := summand(a[i], b[i])
		if err != api.OK {
			return mpoly.Poly{}, err
		}
		rows = append(rows, more...)
	}
	r := a[0].Ring()
	if !allOf(r, a) { // then b's are of it too, as check has told
		return mpoly.Poly{}, api.ErrRing
	}
	return poly(r, rows)
}

// summand is the rows of a product, or the error that Mul has.
func summand(a, b mpoly.Poly) ([]*row, api.Errno) {
	if err := check(a, b); err != api.OK {
		return nil, err
	}
	rows := products(a.Terms(), b.Terms())
	if a.Len()*b.Len() <= api.MaxTerms {
		return rows, api.OK
	}
	// Only the product itself tells whether it has too many terms.
	r := a.Ring()
	list, err := summed(r, rows)
	if err != api.OK {
		return nil, err
	}
	return once(list, len(r.Vars)), api.OK
}

// allOf tells whether all polynomials are of a ring.
func allOf(r api.Ring, l []mpoly.Poly) bool {
	return !slices.ContainsFunc(l, func(a mpoly.Poly) bool { return !mpoly.Same(a.Ring(), r) })
}

// Sum is that of polynomials, by a heap.
func Sum(r api.Ring, l []mpoly.Poly) (mpoly.Poly, api.Errno) {
	if err := mpoly.Check(r); err != api.OK {
		return mpoly.Poly{}, err
	}
	if !allOf(r, l) {
		return mpoly.Poly{}, api.ErrRing
	}
	var rows []*row
	for _, a := range l {
		rows = append(rows, once(a.Terms(), len(r.Vars))...)
	}
	return poly(r, rows)
}
