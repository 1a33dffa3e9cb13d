package recur

import (
	"vinculum/api"
	"vinculum/upoly"
)

// Far is the number of a row at a place, by a rule, however far it is.
func Far(p uint64, r Rule, row []uint64, at uint64) (uint64, api.Errno) {
	f, err := fieldOf(p)
	if err != api.OK {
		return 0, err
	}
	if len(row) < len(r) {
		return 0, api.ErrArg
	}
	// The row's numbers are the coefficients of above divided by below, as a series.
	below := weights(r)
	above := f.product(row[:len(r)], below)
	above = above[:min(len(r), len(above))]
	return f.coefficient(above, below, at), api.OK
}

// coefficient is that of x to the nth in the series of above divided by below, of which the
// coefficient of x to the 0th is 1 (after Bostan and Mori).
func (f field) coefficient(above, below upoly.Poly, n uint64) uint64 {
	for ; n > 0; n >>= 1 {
		// Times the same factor below has even powers of x alone, so that of above only the
		// even ones matter, or the odd ones, as n is. Then x may stand for its square.
		factor := f.turned(below)
		above = everyOther(f.product(above, factor), int(n&1))
		below = everyOther(f.product(below, factor), 0)
	}
	return f.polys.Eval(above, 0)
}

// turned is a polynomial with -x for x.
func (f field) turned(a upoly.Poly) upoly.Poly {
	turned := make(upoly.Poly, len(a))
	for i, x := range a {
		if i%2 == 1 {
			x = f.numbers.Sub(0, x)
		}
		turned[i] = x
	}
	return turned
}

// everyOther is the coefficients from a first one on, by steps of two.
func everyOther(a upoly.Poly, first int) upoly.Poly {
	var others upoly.Poly
	for i := first; i < len(a); i += 2 {
		others = append(others, a[i])
	}
	return others
}
