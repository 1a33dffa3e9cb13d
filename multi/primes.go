package multi

import (
	"math/bits"

	"vinculum/api"
	"vinculum/bigint"
	"vinculum/crt"
	"vinculum/mpoly"
	"vinculum/prime"
)

// mostBits is how many bits numbers have that primes are looked for.
const mostBits = 4000

// mostPrimes is how many are looked for.
const mostPrimes = 1000

// Bits is how many bits a product's coefficients have at most.
func Bits(a, b mpoly.Poly) int {
	if a.Len() == 0 || b.Len() == 0 {
		return 0
	}
	// A coefficient of the product is a sum of no more products than the shorter one has terms.
	shorter := min(a.Len(), b.Len())
	return greatestBits(a) + greatestBits(b) + bits.Len(uint(shorter-1))
}

// greatestBits is how many bits the greatest coefficient has.
func greatestBits(a mpoly.Poly) int {
	most := 0
	for _, t := range a.Terms() {
		most = max(most, t.C.Bits())
	}
	return most
}

// Primes is the greatest primes below a word that are enough for so many bits.
func Primes(bits int, below uint64) ([]uint64, api.Errno) {
	switch {
	case bits < 0 || below > api.MaxWord:
		return nil, api.ErrArg
	case bits > mostBits:
		return nil, api.ErrLimit
	}
	var list []uint64
	for len(list) < mostPrimes {
		next, err := prime.Scan(1, 1, below) // all primes above 2 leave 1, divided by 2
		if err != api.OK {
			break
		}
		below = next[0]
		list = append(list, below)
		if crt.Enough(bits, list) {
			return list, api.OK
		}
	}
	return nil, api.ErrNone
}

// units is, of primes, their product, and for each one the number below that product
// which leaves 1 by it and 0 by all others.
func units(primes []uint64) (all bigint.Int, one []bigint.Int) {
	all = bigint.Of(1)
	for _, p := range primes {
		all = all.Mul(number(p))
	}
	one = make([]bigint.Int, len(primes))
	for i, p := range primes {
		others, _ := all.Exact(number(p))
		one[i], _, _ = crt.Step(bigint.Int{}, others, 1, p)
	}
	return all, one
}

// number is a word below 2 to the 63rd.
func number(w uint64) bigint.Int { return bigint.Of(int(w)) }
