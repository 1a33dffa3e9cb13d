package multi

import (
	"vinculum/api"
	"vinculum/mpoly"
)

// mostPairs is how many pairs of terms a product by primes may have.
const mostPairs = 4000000

// ByPrimes is the product over the integers, by products modulo primes.
func ByPrimes(a, b mpoly.Poly, below uint64) (mpoly.Poly, api.Errno) {
	if err := check(a, b); err != api.OK {
		return mpoly.Poly{}, err
	}
	primes, err := Primes(Bits(a, b), below)
	switch {
	case err != api.OK:
		return mpoly.Poly{}, err
	case a.Len() == 0:
		return a, api.OK // it may be of the zero Ring, which Make does not take
	}
	list, err := gridOf(a.Terms(), b.Terms()).terms(primes)
	if err != api.OK {
		return mpoly.Poly{}, err
	}
	return mpoly.Make(a.Ring(), list)
}

// check is what is wrong with a product by primes, whichever they are.
func check(a, b mpoly.Poly) api.Errno {
	r := a.Ring()
	switch {
	case !mpoly.Same(r, b.Ring()):
		return api.ErrRing
	case r.P != 0:
		return api.ErrArg
	case a.Len()*b.Len() > mostPairs:
		return api.ErrLimit
	}
	for v := range r.Vars {
		if a.In(v)+b.In(v) > api.MaxExp { // the In of 0 is -1, and with that it never is
			return api.ErrLimit
		}
	}
	return api.OK
}
