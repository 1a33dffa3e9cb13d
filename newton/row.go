package newton

import (
	"vinculum/api"
	"vinculum/upoly"
)

// Row is a polynomial that grows, value by value.
type Row struct {
	field
	told      placesTold
	poly      upoly.Poly
	vanishing upoly.Poly // the product of x less each place that was told: 0 there
}

// New is one of no values.
func New(p uint64) (*Row, api.Errno) {
	f, err := fieldOf(p)
	if err != api.OK {
		return nil, err
	}
	return &Row{field: f, told: placesTold{}, vanishing: upoly.Poly{1}}, api.OK
}

// Add takes a value at a place; it tells whether the polynomial was right there already.
func (r *Row) Add(x, y uint64) (bool, api.Errno) {
	if r == nil {
		return false, api.ErrNil
	}
	x = r.numbers.Of(x)
	if _, told := r.told[x]; told {
		return false, api.ErrInexact
	}
	if len(r.told) == mostPlaces {
		return false, api.ErrLimit
	}
	lacks := r.numbers.Sub(y, r.polys.Eval(r.poly, x))
	if lacks != 0 {
		r.raise(x, lacks)
	}
	r.told[x] = struct{}{}
	r.vanishing = r.product(r.vanishing, r.less(x))
	return lacks == 0, api.OK
}

// raise brings the value at a new place up by a number, and leaves all that were told.
func (r *Row) raise(x, by uint64) {
	inverse, _ := r.numbers.Inv(r.polys.Eval(r.vanishing, x))
	times := r.numbers.Mul(by, inverse)
	r.poly = r.polys.Add(r.poly, r.product(r.vanishing, upoly.Poly{times}))
}

// Poly is the polynomial.
func (r *Row) Poly() upoly.Poly {
	if r == nil {
		return nil
	}
	return r.polys.Norm(r.poly)
}

// Len is how many values there are.
func (r *Row) Len() int {
	if r == nil {
		return 0
	}
	return len(r.told)
}
