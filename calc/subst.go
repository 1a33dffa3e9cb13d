package calc

import (
	"slices"

	"vinculum/api"
	"vinculum/mpoly"
)

// mostSubst is the greatest power of a polynomial that is put in the place of a variable.
const mostSubst = 1000

// Subst is a polynomial with another one in the place of a variable.
func Subst(a mpoly.Poly, v int, b mpoly.Poly) (mpoly.Poly, api.Errno) {
	r := a.Ring()
	switch {
	case !has(r, v):
		return mpoly.Poly{}, api.ErrArg
	case !mpoly.Same(r, b.Ring()):
		return mpoly.Poly{}, api.ErrRing
	case a.In(v) > mostSubst:
		return mpoly.Poly{}, api.ErrLimit
	}
	parts, _ := Parts(a, v)
	sum, err := mpoly.Make(r, nil)
	for _, part := range slices.Backward(parts) {
		if sum, err = sum.Mul(b); err != api.OK {
			return mpoly.Poly{}, err
		}
		if sum, err = sum.Add(part); err != api.OK {
			return mpoly.Poly{}, err
		}
	}
	return sum, err
}
