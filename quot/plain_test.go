package quot_test

import (
	"maps"
	"math/big"
	"slices"
	"testing"

	"vinculum/api"
	"vinculum/mpoly"
	"vinculum/quot"
)

// first is the exponents that stand ahead of all, of a polynomial that is not 0.
func (a plain) first(order int) exponents {
	return slices.MaxFunc(slices.Collect(maps.Keys(a)), func(e, f exponents) int { return slices.Compare(rank(order, e), rank(order, f)) })
}

// over is the quotient of numbers of the ring, if there is one.
func over(r api.Ring, c, d *big.Int) (*big.Int, bool) {
	if r.P != 0 {
		p := new(big.Int).SetUint64(r.P)
		x := new(big.Int).ModInverse(d, p)
		return x.Mul(x, c).Mod(x, p), true
	}
	q, left := new(big.Int).QuoRem(c, d, new(big.Int))
	return q, left.Sign() == 0
}

// into is the quotient of the term of c at e by that of d at f, if that goes into it.
func into(r api.Ring, e exponents, c *big.Int, f exponents, d *big.Int) (exponents, *big.Int, bool) {
	for v := range e {
		if e[v] -= f[v]; e[v] < 0 {
			return exponents{}, nil, false
		}
	}
	x, goes := over(r, c, d)
	return e, x, goes
}

// divMod is the division of the document, word by word: what is still to be divided is worked out after each step.
func (a plain) divMod(r api.Ring, b plain) (plain, plain) {
	q, left, rest := plain{}, plain{}, a.within(r)
	f := b.first(r.Order)
	for len(rest) > 0 {
		e := rest.first(r.Order)
		c := new(big.Int).Set(rest[e]) // put writes into the number that is there
		off := plain{e: c}
		if g, x, goes := into(r, e, c, f, b[f]); goes {
			q[g] = x
			off = plain{g: x}.times(b)
		} else {
			left[e] = c
		}
		for e, c := range off {
			rest.put(e, new(big.Int).Neg(c))
		}
		rest = rest.within(r)
	}
	return q, left
}

// wantDivMod holds DivMod, Div and Divides against the plain division, which is answered.
func wantDivMod(t *testing.T, what string, a, b mpoly.Poly) (q, left mpoly.Poly) {
	t.Helper()
	r := a.Ring()
	plainQ, plainLeft := plainOf(a).divMod(r, plainOf(b))
	q, left, err := quot.DivMod(a, b)
	wantPoly(t, what+", the quotient", r, q, err, plainQ)
	wantPoly(t, what+", what is left", r, left, err, plainLeft)
	whole, err := quot.Div(a, b)
	divides, e := quot.Divides(b, a)
	if len(plainLeft) > 0 {
		wantErr(t, what+", Div", whole, err, api.ErrInexact)
	} else {
		wantPoly(t, what+", Div", r, whole, err, plainQ)
	}
	if divides != (len(plainLeft) == 0) || e != api.OK {
		t.Errorf("%s, over %v: Divides: got %t, error %d, of %d terms that are left", what, r, divides, int(e), len(plainLeft))
	}
	return q, left
}

// wantAllErr holds the error of each of the three.
func wantAllErr(t *testing.T, what string, a, b mpoly.Poly, want api.Errno) {
	t.Helper()
	q, left, err := quot.DivMod(a, b)
	wantErr(t, what+", DivMod, the quotient", q, err, want)
	wantErr(t, what+", DivMod, what is left", left, err, want)
	q, err = quot.Div(a, b)
	wantErr(t, what+", Div", q, err, want)
	if divides, err := quot.Divides(b, a); divides || err != want {
		t.Errorf("%s: Divides: got %t, error %d, want the error %d", what, divides, int(err), int(want))
	}
}
