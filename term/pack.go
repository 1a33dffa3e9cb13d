package term

import (
	"slices"

	"vinculum/api"
)

// mostPacks is how many numbers a base may tell apart.
const mostPacks = 1 << 52

// Pack is exponents as one number, by a base for each variable.
func Pack(a, base []int) (int, api.Errno) {
	if !mayBe(a) || len(a) != len(base) || !isBase(base) || !below(a, base) {
		return 0, api.ErrArg
	}
	if _, err := packs(base); err != api.OK {
		return 0, err
	}
	n := 0
	for i := len(a) - 1; i >= 0; i-- {
		n = a[i] + base[i]*n
	}
	return n, api.OK
}

// Unpack is the exponents of a number.
func Unpack(n int, base []int) ([]int, api.Errno) {
	if !isBase(base) {
		return nil, api.ErrArg
	}
	count, err := packs(base)
	if err != api.OK {
		return nil, err
	}
	if n < 0 || n >= count {
		return nil, api.ErrArg
	}
	a := make([]int, len(base))
	for i, b := range base {
		a[i], n = n%b, n/b
	}
	// A base may be greater than exponents are.
	if !mayBe(a) {
		return nil, api.ErrLimit
	}
	return a, api.OK
}

// isBase tells whether a list has a number from 1 on for each of the variables there may be.
func isBase(base []int) bool {
	return len(base) <= api.MaxVars && !slices.ContainsFunc(base, func(b int) bool { return b < 1 })
}

// below tells whether each exponent is smaller than its base.
func below(a, base []int) bool {
	for i, x := range a {
		if x >= base[i] {
			return false
		}
	}
	return true
}

// packs is how many numbers a base tells apart: its product.
func packs(base []int) (int, api.Errno) {
	count := 1
	for _, b := range base {
		if b > mostPacks/count { // ahead of the product, which an int might not hold
			return 0, api.ErrLimit
		}
		count *= b
	}
	return count, api.OK
}
