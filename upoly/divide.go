package upoly

import (
	"math/bits"

	"vinculum/api"
)

// DivMod is the quotient, and what is left.
func (f *Field) DivMod(a, b Poly) (Poly, Poly, api.Errno) {
	if f == nil {
		return nil, nil, api.ErrNil
	}
	b = f.Norm(b)
	if len(b) == 0 {
		return nil, nil, api.ErrDivZero
	}
	q, r := f.divide(f.Norm(a), b)
	return q, r, api.OK
}

// divide is DivMod of polynomials as Norm answers them, of which b is not 0. What is
// left may be a itself.
func (f *Field) divide(a, b Poly) (q, r Poly) {
	deg := len(b) - 1
	if len(a) <= deg {
		return nil, a
	}
	scale := f.scale(b)
	q = make(Poly, len(a)-deg)
	for i := len(q) - 1; i >= 0; i-- {
		// What the coefficients of q that are known do not bring to a, this one does.
		lacks := f.numbers.Sub(a[i+deg], f.coefficient(q, b, i+deg))
		q[i] = f.numbers.Mul(lacks, scale)
	}
	r = make(Poly, deg)
	for i := range r {
		r[i] = f.numbers.Sub(a[i], f.coefficient(q, b, i))
	}
	return q, f.cut(r)
}

// Gcd is the greatest common divisor, with 1 as its highest coefficient.
func (f *Field) Gcd(a, b Poly) Poly {
	if f == nil {
		return nil
	}
	last, next := f.Norm(a), f.Norm(b)
	for len(next) > 0 {
		_, left := f.divide(last, next)
		last, next = next, left
	}
	return f.Monic(last)
}

// Ext is that, and the two polynomials by which a and b come to it.
func (f *Field) Ext(a, b Poly) (Poly, Poly, Poly) {
	if f == nil {
		return nil, nil, nil
	}
	a, b = f.Norm(a), f.Norm(b)
	last, times := f.euclid(a, b)
	scale := f.scale(last)
	g, s := f.scaled(last, scale), f.scaled(times, scale)
	if len(b) == 0 {
		return g, s, nil
	}
	// What a does not bring to g, b does.
	brought, _ := f.product(s, a, ownChoice)
	t, _ := f.divide(f.Sub(g, brought), b)
	return g, s, t
}

// euclid is a polynomial of the highest degree that divides a and b, and by what a is
// multiplied to come to it together with a multiple of b.
func (f *Field) euclid(a, b Poly) (last, times Poly) {
	if len(a) == 0 {
		return b, nil
	}
	last, next := a, b
	times, nextTimes := Poly{1}, Poly{}
	for len(next) > 0 {
		q, left := f.divide(last, next)
		product, _ := f.product(q, nextTimes, ownChoice)
		last, next = next, left
		times, nextTimes = nextTimes, f.Sub(times, product)
	}
	return last, times
}

// PowMod is a to the nth, modulo b.
func (f *Field) PowMod(a Poly, n uint64, b Poly) (Poly, api.Errno) {
	_, a, err := f.DivMod(a, b)
	if err != api.OK {
		return nil, err
	}
	b = f.Norm(b)
	_, power := f.divide(Poly{1}, b)
	// From the highest bit on: then the factors are a itself, which is often short.
	for i := bits.Len64(n) - 1; i >= 0; i-- {
		power = f.productMod(power, power, b)
		if n>>i&1 == 1 {
			power = f.productMod(power, a, b)
		}
	}
	return power, api.OK
}

// productMod is what is left of the product of two, divided by b.
func (f *Field) productMod(x, y, b Poly) Poly {
	product, _ := f.product(x, y, ownChoice)
	_, left := f.divide(product, b)
	return left
}
