package roots

import (
	"vinculum/api"
	"vinculum/upoly"
)

// Times is how often a number is a root of a polynomial.
func Times(p uint64, a upoly.Poly, x uint64) (int, api.Errno) {
	f, err := fieldFor(p, a)
	if err != api.OK {
		return 0, err
	}
	// Most numbers are no roots, and a value is found sooner than all else.
	if f.polys.Eval(a, x) != 0 {
		return 0, api.OK
	}
	// Moved by x, the root is 0: it is one as often as x divides what it has come to.
	a = f.polys.Norm(a)
	moved := f.moved(a, f.squares(x, len(a)))
	times := 0
	for moved[times] == 0 {
		times++
	}
	return times, api.OK
}

// squares is x and a number, then its square, the square of that, and so on: as many as
// polynomials of so many coefficients need to be moved by that number.
func (f field) squares(by uint64, many int) []upoly.Poly {
	var squares []upoly.Poly
	last := upoly.Poly{f.numbers.Of(by), 1}
	for length := 1; length < many; length *= 2 {
		if length > 1 {
			last = f.product(last, last)
		}
		squares = append(squares, last)
	}
	return squares
}

// moved is a polynomial with x and a number for x, where squares has powers of these up
// to half of the polynomial's length at least. By halves all of it is long products.
func (f field) moved(a upoly.Poly, squares []upoly.Poly) upoly.Poly {
	if len(a) <= 1 {
		return a
	}
	last := len(squares) - 1
	half := 1 << last
	if len(a) <= half {
		return f.moved(a, squares[:last])
	}
	low, high := f.moved(a[:half], squares[:last]), f.moved(a[half:], squares[:last])
	return f.polys.Add(low, f.product(high, squares[last]))
}
