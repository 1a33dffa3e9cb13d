package conv

import (
	"slices"

	"vinculum/api"
)

// mostSize is how many coefficients a box may have.
const mostSize = 65536

// Box is a polynomial of several variables: how many powers of each it has, and its coefficients, those of the last variable next to one another.
type Box struct {
	Dims []int
	L    []uint64
}

// Size is how many coefficients a box has.
func Size(dims []int) (int, api.Errno) {
	if len(dims) > api.MaxVars || slices.ContainsFunc(dims, func(d int) bool { return d < 1 }) {
		return 0, api.ErrArg
	}
	size := 1
	for _, d := range dims {
		// The product itself may be no int.
		if d > mostSize/size {
			return 0, api.ErrLimit
		}
		size *= d
	}
	return size, api.OK
}

// Place is that of a coefficient, by its exponents.
func Place(dims, exps []int) (int, api.Errno) {
	if _, err := Size(dims); err != api.OK {
		return 0, err
	}
	if len(exps) != len(dims) {
		return 0, api.ErrArg
	}
	place := 0
	for i, e := range exps {
		if e < 0 || e >= dims[i] {
			return 0, api.ErrArg
		}
		place = place*dims[i] + e
	}
	return place, api.OK
}

// Mul is the product of two boxes, modulo any word.
func Mul(a, b Box, m uint64) (Box, api.Errno) {
	if !mayDivide(m) || !a.mayBe() || !b.mayBe() || len(a.Dims) != len(b.Dims) {
		return Box{}, api.ErrArg
	}
	dims := make([]int, len(a.Dims))
	for i := range dims {
		dims[i] = a.Dims[i] + b.Dims[i] - 1
	}
	if _, err := Size(dims); err != api.OK {
		return Box{}, err
	}
	// In boxes of the product's own Dims no sum of exponents is too great, so that
	// places add up as exponents do, and a product of lists is one of boxes.
	l, _ := Conv(a.packed(dims), b.packed(dims), m)
	return Box{dims, l}, api.OK
}

// Widened is a box with more powers of each variable.
func Widened(a Box, dims []int) (Box, api.Errno) {
	if !a.mayBe() || len(dims) != len(a.Dims) {
		return Box{}, api.ErrArg
	}
	for i, d := range dims {
		if d < a.Dims[i] {
			return Box{}, api.ErrArg
		}
	}
	size, err := Size(dims)
	if err != api.OK {
		return Box{}, err
	}
	return Box{slices.Clone(dims), a.spread(dims, size)}, api.OK
}

// mayBe tells whether a box has as many coefficients as its Dims say.
func (a Box) mayBe() bool {
	size, err := Size(a.Dims)
	return err == api.OK && len(a.L) == size
}

// spread is the coefficients of a at their places in a wider box, and 0 elsewhere.
func (a Box) spread(dims []int, size int) []uint64 {
	l := make([]uint64, size)
	var walk func(v, from, to int)
	walk = func(v, from, to int) {
		if v == len(dims) {
			l[to] = a.L[from]
			return
		}
		for e := range a.Dims[v] {
			walk(v+1, from*a.Dims[v]+e, to*dims[v]+e)
		}
	}
	walk(0, 0, 0)
	return l
}

// packed is spread, without the places behind the last coefficient of a: those of two
// boxes have then just as many together as their product's list needs.
func (a Box) packed(dims []int) []uint64 {
	highest := make([]int, len(dims))
	for i, d := range a.Dims {
		highest[i] = d - 1
	}
	last, _ := Place(dims, highest)
	return a.spread(dims, last+1)
}
