package lang

import (
	"math/bits"

	"vinculum/api"
	"vinculum/bigint"
	"vinculum/mpoly"
)

// mostPower is the greatest power of a value of two terms or more, mostPowerBits is how many
// bits the power of a number may have.
const (
	mostPower     = 1000
	mostPowerBits = 64 * api.MaxLimbs
)

// values are those of trees, over a ring.
type values struct {
	ring api.Ring
	one  mpoly.Poly
	vars []mpoly.Poly
}

// over is the values over a ring that may be.
func over(r api.Ring) values {
	one, _ := mpoly.Make(r, []mpoly.Term{{E: make([]int, len(r.Vars)), C: bigint.Of(1)}})
	v := values{ring: r, one: one}
	for i := range r.Vars {
		e := make([]int, len(r.Vars))
		e[i] = 1
		v.vars = append(v.vars, v.term(e, bigint.Of(1)))
	}
	return v
}

// term is a polynomial of one. It comes of 1, so that the ring is not looked at anew.
func (v values) term(e []int, c bigint.Int) mpoly.Poly {
	a, _ := v.one.Scale(mpoly.Term{E: e, C: c})
	return a
}

// value is a tree's, what stands within first.
func (v values) value(tree any) (mpoly.Poly, fault) {
	switch x := tree.(type) {
	case bigint.Int:
		return v.term(make([]int, len(v.vars)), x), fault{}
	case variable:
		return v.vars[x], fault{}
	case negative:
		a, wrong := v.value(x.of)
		return a.Neg(), wrong
	case power:
		return v.power(x)
	case product:
		return v.product(x)
	case sum:
		return v.sum(x)
	default:
		return mpoly.Poly{}, fault{}
	}
}

func (v values) power(x power) (mpoly.Poly, fault) {
	a, wrong := v.value(x.of)
	if wrong.err != api.OK {
		return mpoly.Poly{}, wrong
	}
	n, small := x.n.Small()
	if !small || n > api.MaxExp {
		return mpoly.Poly{}, fault{x.sign.At, api.ErrLimit}
	}
	a, err := v.raised(a, n)
	if err != api.OK {
		return mpoly.Poly{}, fault{x.sign.At, err}
	}
	return a, fault{}
}

// raised is a value, n times.
func (v values) raised(a mpoly.Poly, n int) (mpoly.Poly, api.Errno) {
	switch {
	case a.Len() > 1 && n > mostPower, a.Len() == 1 && v.tooGreat(a.Terms()[0], n):
		return mpoly.Poly{}, api.ErrLimit
	case a.Len() > 1:
		return a.Pow(n)
	default:
		return v.squared(a, n), api.OK
	}
}

// tooGreat tells whether a term's nth power is too great.
func (v values) tooGreat(t mpoly.Term, n int) bool {
	for _, x := range t.E {
		if x*n > api.MaxExp {
			return true
		}
	}
	// Of numbers that are not 0 only 1 and -1 have one bit.
	return v.ring.P == 0 && t.C.Bits() > 1 && t.C.Bits()*n > mostPowerBits
}

// squared is the nth power of 0, or of a term whose power is not too great: so is none of
// those by which it goes.
func (v values) squared(a mpoly.Poly, n int) mpoly.Poly {
	b := v.one
	for i := bits.Len(uint(n)) - 1; i >= 0; i-- {
		b, _ = b.Mul(b)
		if n>>i&1 != 0 {
			b, _ = b.Mul(a)
		}
	}
	return b
}

func (v values) product(x product) (mpoly.Poly, fault) {
	a, wrong := v.value(x[0].tree)
	if wrong.err != api.OK {
		return mpoly.Poly{}, wrong
	}
	for _, f := range x[1:] {
		b, wrong := v.value(f.tree)
		if wrong.err != api.OK {
			return mpoly.Poly{}, wrong
		}
		var err api.Errno
		if a, err = a.Mul(b); err != api.OK {
			return mpoly.Poly{}, fault{f.sign.At, err}
		}
	}
	return a, fault{}
}
