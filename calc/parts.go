package calc

import (
	"vinculum/api"
	"vinculum/mpoly"
)

// Parts is a polynomial's coefficients by the powers of a variable, from the 0th on.
func Parts(a mpoly.Poly, v int) ([]mpoly.Poly, api.Errno) {
	r := a.Ring()
	if !has(r, v) {
		return nil, api.ErrArg
	}
	lists := make([][]mpoly.Term, a.In(v)+1)
	for _, t := range a.Terms() {
		n := t.E[v]
		t.E[v] = 0
		lists[n] = append(lists[n], t)
	}
	none, _ := mpoly.Make(r, nil)
	parts := make([]mpoly.Poly, len(lists))
	for i, list := range lists {
		parts[i] = none // one for all that are 0: there may be a million of them
		if len(list) > 0 {
			parts[i], _ = mpoly.Make(r, list)
		}
	}
	return parts, api.OK
}

// Join is the polynomial of which these are the Parts.
func Join(r api.Ring, v int, l []mpoly.Poly) (mpoly.Poly, api.Errno) {
	if !has(r, v) {
		return mpoly.Poly{}, api.ErrArg
	}
	for _, part := range l {
		if part.In(v) > 0 {
			return mpoly.Poly{}, api.ErrArg
		}
	}
	for _, part := range l {
		if !mpoly.Same(part.Ring(), r) {
			return mpoly.Poly{}, api.ErrRing
		}
	}
	if len(l) > api.MaxExp+1 {
		return mpoly.Poly{}, api.ErrLimit
	}
	return joined(r, v, l...)
}

// joined is the sum of parts without a variable, each times that variable to its place.
func joined(r api.Ring, v int, parts ...mpoly.Poly) (mpoly.Poly, api.Errno) {
	many := 0
	for _, part := range parts {
		many += part.Len()
	}
	// None of them falls together with another one. Make would say so too, but of a list
	// that may be very long.
	if many > api.MaxTerms {
		return mpoly.Poly{}, api.ErrLimit
	}
	list := make([]mpoly.Term, 0, many)
	for i, part := range parts {
		for _, t := range part.Terms() {
			t.E[v] = i
			list = append(list, t)
		}
	}
	return mpoly.Make(r, list)
}
