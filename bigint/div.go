package bigint

import (
	"vinculum/api"
	"vinculum/nat"
)

// QuoRem is how many times y goes into x, towards 0, and what is left.
func (x Int) QuoRem(y Int) (Int, Int, api.Errno) {
	q, left, err := nat.DivMod(x.abs, y.abs)
	if err != api.OK {
		return Int{}, Int{}, err
	}
	return signed(x.neg != y.neg, q), signed(x.neg, left), api.OK
}

// DivMod is how many times y goes into x, downwards, and what is left.
func (x Int) DivMod(y Int) (Int, Int, api.Errno) {
	q, left, err := x.QuoRem(y)
	if left.Sign() != 0 && left.neg != y.neg {
		q, left = q.Sub(Of(1)), left.Add(y)
	}
	return q, left, err
}

// Exact is x divided by y, if that goes up.
func (x Int) Exact(y Int) (Int, api.Errno) {
	q, left, err := x.QuoRem(y)
	if err != api.OK {
		return Int{}, err
	}
	if left.Sign() != 0 {
		return Int{}, api.ErrInexact
	}
	return q, api.OK
}

// Gcd is the greatest number that divides both.
func (x Int) Gcd(y Int) Int { return signed(false, nat.Gcd(x.abs, y.abs)) }

// Mod is what is left of x, from 0 on, divided by a word.
func (x Int) Mod(w uint64) (uint64, api.Errno) {
	_, left, err := nat.DivWord(x.abs, w)
	if x.neg && left != 0 {
		left = w - left
	}
	return left, err
}
