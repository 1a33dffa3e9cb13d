package kron

import (
	"iter"

	"vinculum/api"
	"vinculum/bigint"
	"vinculum/mpoly"
	"vinculum/term"
	"vinculum/upoly"
)

// Flat is a polynomial of one variable, each term at the place that its exponents pack to.
func Flat(a mpoly.Poly, base []int) (upoly.Poly, api.Errno) {
	p := a.Ring().P
	if p == 0 {
		return nil, api.ErrArg
	}
	terms := a.Terms()
	places, err := packed(terms, base)
	if err != api.OK {
		return nil, err
	}
	length := 0
	for _, place := range places {
		length = max(length, place+1)
	}
	if length > Most {
		return nil, api.ErrLimit
	}
	f := make(upoly.Poly, length)
	for place, c := range placed(places, terms, p) {
		f[place] = c
	}
	return f, api.OK
}

// packed is the places that terms pack to. None is held against Most ahead of the last
// one, as a later term's own error stands ahead of that limit.
func packed(terms []mpoly.Term, base []int) ([]int, api.Errno) {
	places := make([]int, len(terms))
	for i, t := range terms {
		place, err := term.Pack(t.E, base)
		if err != api.OK {
			return nil, err
		}
		places[i] = place
	}
	return places, api.OK
}

// placed is the places of terms, and their coefficients as words.
func placed(places []int, terms []mpoly.Term, p uint64) iter.Seq2[int, uint64] {
	return func(yield func(place int, c uint64) bool) {
		for i, place := range places {
			c, _ := terms[i].C.Mod(p)
			if !yield(place, c) {
				return
			}
		}
	}
}

// Spread is the polynomial that is flat so.
func Spread(r api.Ring, f upoly.Poly, base []int) (mpoly.Poly, api.Errno) {
	if err := mpoly.Check(r); err != api.OK {
		return mpoly.Poly{}, err
	}
	if r.P == 0 || len(base) != len(r.Vars) {
		return mpoly.Poly{}, api.ErrArg
	}
	if len(f) > Most {
		return mpoly.Poly{}, api.ErrLimit
	}
	var terms []mpoly.Term
	for place, c := range nonzero(f, r.P) {
		e, err := term.Unpack(place, base)
		if err != api.OK {
			return mpoly.Poly{}, err
		}
		terms = append(terms, mpoly.Term{E: e, C: bigint.Of(int(c))}) // it is below 2 to the 63rd, as P is
	}
	return mpoly.Make(r, terms)
}

// nonzero is the places whose coefficients are not 0 modulo p, and these.
func nonzero(f upoly.Poly, p uint64) iter.Seq2[int, uint64] {
	return func(yield func(place int, c uint64) bool) {
		for place, c := range f {
			if c %= p; c != 0 && !yield(place, c) {
				return
			}
		}
	}
}
