package sparse

import (
	"vinculum/api"
	"vinculum/bigint"
	"vinculum/mpoly"
	"vinculum/nat"
	"vinculum/newton"
	"vinculum/recur"
	"vinculum/roots"
)

// Find is the polynomial that has these values there; seeds tell its terms apart.
func Find(r api.Ring, values, seeds []uint64) (mpoly.Poly, api.Errno) {
	if err := checkFind(r, values); err != api.OK {
		return mpoly.Poly{}, err
	}
	codes, err := codesOf(r.P, values, seeds)
	if err != api.OK {
		return mpoly.Poly{}, err
	}
	terms, err := termsOf(codes, len(r.Vars))
	if err != api.OK {
		return mpoly.Poly{}, err
	}
	coefficients, _ := newton.Sums(r.P, codes, values[:len(codes)]) // roots are no two the same
	for i, c := range coefficients {
		terms[i].C = bigint.From(false, nat.Nat{c})
	}
	return mpoly.Make(r, terms)
}

// checkFind is what is wrong with what a polynomial is to be found of, as far as it is seen
// ahead.
func checkFind(r api.Ring, values []uint64) api.Errno {
	if err := mpoly.Check(r); err != api.OK {
		return err
	}
	switch {
	case r.P == 0 || len(values)%2 != 0:
		return api.ErrArg
	case len(values) > mostPoints:
		return api.ErrLimit
	default:
		return api.OK
	}
}

// codesOf is the codes, rising, whose powers come to the values, each code's times a number
// of its own: the shortest rule by which the values go on has them as its polynomial's
// roots.
func codesOf(p uint64, values, seeds []uint64) ([]uint64, api.Errno) {
	rule, _ := recur.Find(p, values)
	if 2*len(rule) > len(values) {
		return nil, api.ErrInexact
	}
	char, _ := recur.Char(p, rule)
	codes, err := roots.Roots(p, char, seeds)
	switch {
	case err != api.OK:
		return nil, err
	case len(codes) < len(rule):
		return nil, api.ErrInexact
	default:
		return codes, api.OK
	}
}

// termsOf is the terms that have codes, still without their coefficients.
func termsOf(codes []uint64, vars int) ([]mpoly.Term, api.Errno) {
	terms := make([]mpoly.Term, len(codes))
	for i, code := range codes {
		e, err := Exps(code, vars)
		if err != api.OK {
			return nil, err
		}
		terms[i].E = e
	}
	return terms, api.OK
}
