package upoly

import (
	"math/bits"

	"vinculum/api"
	"vinculum/conv"
)

// Ways of a product.
const (
	ownChoice = iota
	oneByOne
	byHalves
	byPrimes
)

// few and many are coefficients of the shorter polynomial: below few the product is
// fastest one by one, and from many on by primes (as measured).
const (
	few  = 64
	many = 3000
)

// mostTogether is how many numbers of two polynomials conv.Conv takes.
const mostTogether = 1 << 20

// Mul is the product, by a way: 0 by one's own choice, 1 one by one, 2 by halves, 3 by primes.
func (f *Field) Mul(a, b Poly, way int) (Poly, api.Errno) {
	if f == nil {
		return nil, api.ErrNil
	}
	// Over a field the product of two highest coefficients is not 0: nothing is to be cut.
	return f.product(f.Norm(a), f.Norm(b), way)
}

// product is that of two lists of numbers below p: as many as both together, less 1. Of
// one's own choice and by halves it has no error.
func (f *Field) product(a, b Poly, way int) (Poly, api.Errno) {
	shorter, together := min(len(a), len(b)), len(a)+len(b)
	switch {
	case way == ownChoice && shorter < few:
		fallthrough
	case way == oneByOne:
		return f.productOneByOne(a, b), api.OK
	case way == ownChoice && (shorter < many || together > mostTogether):
		fallthrough
	case way == byHalves:
		return f.productByHalves(a, b, way), api.OK
	case way == ownChoice:
		fallthrough
	case way == byPrimes:
		return conv.Conv(a, b, f.P())
	default:
		return nil, api.ErrArg
	}
}

// productOneByOne is the product, coefficient by coefficient.
func (f *Field) productOneByOne(a, b Poly) Poly {
	if len(a) == 0 || len(b) == 0 {
		return nil
	}
	product := make(Poly, len(a)+len(b)-1)
	for k := range product {
		product[k] = f.coefficient(a, b, k)
	}
	return product
}

// coefficient is that of x to the kth in the product of two lists of numbers below p,
// for k from 0 to less than the product's length.
func (f *Field) coefficient(a, b Poly, k int) uint64 {
	from, to := max(0, k+1-len(b)), min(k+1, len(a))
	b = b[k+1-to : k+1-from]
	// The products are added up as they are, to a number of three words: it is divided
	// once, and a division costs more than all else here.
	var high, middle, low, carry uint64
	for i, x := range a[from:to] {
		upper, lower := bits.Mul64(x, b[len(b)-1-i])
		low, carry = bits.Add64(low, lower, 0)
		middle, carry = bits.Add64(middle, upper, carry)
		high += carry
	}
	return f.left(high, middle, low)
}

// left is what is left of a number of three words that is the sum of products of numbers
// below p: of fewer than 2 to the 64th of them, its highest word is below p.
func (f *Field) left(high, middle, low uint64) uint64 {
	if high > 0 {
		_, middle = bits.Div64(high, middle, f.P())
	}
	_, low = bits.Div64(f.numbers.Of(middle), low, f.P())
	return low
}

// productByHalves is the product, after Karatsuba. Products of halves go by the same
// way: where one's own choice was halves because there is too much of both, it may be
// primes for these.
func (f *Field) productByHalves(a, b Poly, way int) Poly {
	if len(a) < len(b) {
		a, b = b, a
	}
	if len(b) < few {
		return f.productOneByOne(a, b)
	}
	half := (len(a) + 1) / 2
	if len(b) <= half {
		return f.productOfOneHalved(a, b, half, way)
	}
	low, _ := f.product(a[:half], b[:half], way)
	high, _ := f.product(a[half:], b[half:], way)
	middle, _ := f.product(f.sum(a[:half], a[half:]), f.sum(b[:half], b[half:]), way)
	f.take(middle, low)
	f.take(middle, high)
	product := make(Poly, len(a)+len(b)-1)
	f.put(product, low)
	f.put(product[half:], middle)
	f.put(product[2*half:], high)
	return product
}

// productOfOneHalved is the product where b is too short for halves of its own.
func (f *Field) productOfOneHalved(a, b Poly, half, way int) Poly {
	low, _ := f.product(a[:half], b, way)
	high, _ := f.product(a[half:], b, way)
	product := make(Poly, len(a)+len(b)-1)
	f.put(product, low)
	f.put(product[half:], high)
	return product
}
