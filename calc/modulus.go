package calc

import (
	"math/bits"

	"vinculum/bigint"
	"vinculum/mpoly"
)

// modulus is a prime below 2 to the 63rd. What is taken modulo it is a word, as words
// cost far less than numbers of any size do.
type modulus uint64

func (p modulus) word(x bigint.Int) uint64 {
	left, _ := x.Mod(uint64(p))
	return left
}

func (p modulus) product(x, y uint64) uint64 {
	high, low := bits.Mul64(x, y)
	return bits.Rem64(high, low, uint64(p))
}

func (p modulus) power(x, n uint64) uint64 {
	z := uint64(1)
	for ; n > 0; n >>= 1 {
		if n&1 != 0 {
			z = p.product(z, x)
		}
		x = p.product(x, x)
	}
	return z
}

// inverse is 1 divided by a word that is not 0, after Fermat.
func (p modulus) inverse(x uint64) uint64 { return p.power(x, uint64(p)-2) }

// value is the sum of terms, each variable being a word.
func (p modulus) value(terms []mpoly.Term, l []uint64) uint64 {
	var sum uint64
	for _, t := range terms {
		z := p.word(t.C)
		for v, n := range t.E {
			z = p.product(z, p.power(l[v], uint64(n)))
		}
		sum = (sum + z) % uint64(p)
	}
	return sum
}

// number is a word below P, which is an int as P is one.
func number(w uint64) bigint.Int { return bigint.Of(int(w)) }
