package word

import "vinculum/api"

// Inv is what x times is 1.
func (f *Field) Inv(x uint64) (uint64, api.Errno) {
	if f == nil {
		return 0, api.ErrNil
	}
	x = f.left(x)
	if x == 0 {
		return 0, api.ErrDivZero
	}
	common, times := euclid(f.m, x)
	if common > 1 {
		return 0, api.ErrInexact
	}
	if times < 0 {
		times += int64(f.m)
	}
	return uint64(times), api.OK
}

// euclid is the greatest number that divides m and x, and how many times x it is
// modulo m: from -m to m, for m below 2 to the 63rd and x from 1 to m less 1.
func euclid(m, x uint64) (common uint64, times int64) {
	// last is lastTimes x, and next is nextTimes x, modulo m. The signs of the
	// times take turns, and so none of them grows beyond m.
	last, next := m, x
	lastTimes, nextTimes := int64(0), int64(1)
	for next != 0 {
		q := last / next
		last, next = next, last-q*next
		lastTimes, nextTimes = nextTimes, lastTimes-int64(q)*nextTimes
	}
	return last, lastTimes
}

// Invs is the inverses of all, by one division.
func (f *Field) Invs(l []uint64) ([]uint64, api.Errno) {
	if f == nil {
		return nil, api.ErrNil
	}
	before := make([]uint64, len(l))
	product := uint64(1)
	for i, x := range l {
		before[i] = product
		product = f.Mul(product, x)
	}
	// A product has an inverse just where each of its factors has one.
	inverse, err := f.Inv(product)
	if err != api.OK {
		return nil, f.firstError(l)
	}
	return f.apart(before, l, inverse), api.OK
}

// firstError is not the error of the product: factors that are not 0 may make 0.
func (f *Field) firstError(l []uint64) api.Errno {
	for _, x := range l {
		if _, err := f.Inv(x); err != api.OK {
			return err
		}
	}
	return api.OK
}

// apart takes the inverse of the product of all to those of each, from the last
// one on, in the place of the products of all that stand before each.
func (f *Field) apart(before, l []uint64, inverse uint64) []uint64 {
	for i := len(l) - 1; i >= 0; i-- {
		before[i] = f.Mul(before[i], inverse)
		inverse = f.Mul(inverse, l[i])
	}
	return before
}
