package sparse

import (
	"slices"

	"vinculum/api"
	"vinculum/word"
)

// firstPrimes are those that stand for the variables.
var firstPrimes = [api.MaxVars]uint64{2, 3, 5, 7, 11, 13, 17, 19}

// hasPrimes tells whether there is a prime for each of so many variables.
func hasPrimes(vars int) bool { return vars >= 0 && vars <= len(firstPrimes) }

// Code is the number that tells exponents: the product of the first primes, each to one of them.
func Code(e []int, below uint64) (uint64, api.Errno) {
	if err := check(e); err != api.OK {
		return 0, err
	}
	code := uint64(1)
	if code >= below {
		return 0, api.ErrLimit
	}
	for v, n := range e {
		// Up to this a product by the prime is still below; of others it may be no word.
		most := (below - 1) / firstPrimes[v]
		for range n {
			if code > most {
				return 0, api.ErrLimit
			}
			code *= firstPrimes[v]
		}
	}
	return code, api.OK
}

// check is what is wrong with exponents, as term tells it, on which this layer does not
// stand.
func check(e []int) api.Errno {
	switch {
	case len(e) == 0:
		return api.OK
	case !hasPrimes(len(e)) || slices.Min(e) < 0:
		return api.ErrArg
	case slices.Max(e) > api.MaxExp:
		return api.ErrLimit
	default:
		return api.OK
	}
}

// codeWithin is the code of exponents of a polynomial, modulo a prime.
func codeWithin(field *word.Field, e []int) uint64 {
	code := uint64(1)
	for v, n := range e {
		code = field.Mul(code, field.Pow(firstPrimes[v], uint64(n)))
	}
	return code
}

// Exps is the exponents that a number tells, of so many variables.
func Exps(n uint64, vars int) ([]int, api.Errno) {
	if !hasPrimes(vars) || n == 0 {
		return nil, api.ErrArg
	}
	e := make([]int, vars)
	for v := range e {
		for n%firstPrimes[v] == 0 {
			n /= firstPrimes[v]
			e[v]++
		}
	}
	if n > 1 {
		return nil, api.ErrInexact
	}
	return e, api.OK
}
