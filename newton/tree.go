package newton

import "vinculum/upoly"

// few is at so many places, or of so many coefficients, that values are found sooner one by
// one than by a tree (as measured).
const few = 8

// tree is places, and the same by halves.
type tree struct {
	places    []uint64
	product   upoly.Poly // of x less each place
	low, high *tree      // of the halves, where there are two places or more
}

// treeOf is that of places.
func (f field) treeOf(l []uint64) *tree {
	switch len(l) {
	case 0:
		return &tree{product: upoly.Poly{1}}
	case 1:
		return &tree{places: l, product: f.less(l[0])}
	}
	lower, upper := halves(l)
	low, high := f.treeOf(lower), f.treeOf(upper)
	return &tree{l, f.product(low.product, high.product), low, high}
}

// halves is those of a list, each a piece of it that goes no further.
func halves(l []uint64) (low, high []uint64) {
	half := len(l) / 2
	return l[:half:half], l[half:len(l):len(l)]
}

// fill puts a polynomial's values at places into a list of as many numbers.
func (f field) fill(values []uint64, a upoly.Poly, l []uint64) {
	switch {
	case len(a) <= few || len(l) <= few:
		f.fillOneByOne(values, a, l)
	case len(l) > len(a):
		// A product of so many factors would leave all of the polynomial.
		low, high := halves(values)
		lower, upper := halves(l)
		f.fill(low, a, lower)
		f.fill(high, a, upper)
	default:
		f.fillDown(values, a, f.treeOf(l))
	}
}

func (f field) fillOneByOne(values []uint64, a upoly.Poly, l []uint64) {
	for i, x := range l {
		values[i] = f.polys.Eval(a, x)
	}
}

// fillDown is fill at a tree's places: what is left of a polynomial, divided by the product
// of x less each of them, has the same values there.
func (f field) fillDown(values []uint64, a upoly.Poly, t *tree) {
	if len(values) <= few {
		f.fillOneByOne(values, a, t.places)
		return
	}
	_, left, _ := f.polys.DivMod(a, t.product)
	low, high := halves(values)
	f.fillDown(low, left, t.low)
	f.fillDown(high, left, t.high)
}

// valuesOn is a polynomial's values at a tree's places.
func (f field) valuesOn(t *tree, a upoly.Poly) []uint64 {
	values := make([]uint64, len(t.places))
	f.fillDown(values, a, t)
	return values
}

// mixed is what the products of x less each of a tree's places but one, each times the
// weight of that one, come to together.
func (f field) mixed(t *tree, weights []uint64) upoly.Poly {
	if len(weights) <= 1 {
		return f.polys.Norm(weights)
	}
	lower, upper := halves(weights)
	low := f.product(f.mixed(t.low, lower), t.high.product)
	high := f.product(f.mixed(t.high, upper), t.low.product)
	return f.polys.Add(low, high)
}
