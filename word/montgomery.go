package word

import (
	"math/bits"

	"vinculum/api"
)

// inverseWord is what m times is 1, as a word, for an odd m.
func inverseWord(m uint64) uint64 {
	// m times itself is 1 modulo 8, and each of Newton's steps doubles the bits
	// that are right: 3, 6, 12, 24, 48, 96.
	y := m
	for range 5 {
		y *= 2 - m*y
	}
	return y
}

// squareOfRadix is 2 to the 128th, modulo m, for m from 2 on.
func squareOfRadix(m uint64) uint64 {
	_, radix := bits.Div64(1, 0, m)
	_, square := bits.Div64(radix, 0, m)
	return square
}

// formError tells why there are no forms, if so.
func (f *Field) formError() api.Errno {
	switch {
	case f == nil:
		return api.ErrNil
	case f.m%2 == 0:
		return api.ErrArg
	default:
		return api.OK
	}
}

// reduce is the product of x and y, which must be below m, over 2 to the 64th.
func (f *Field) reduce(x, y uint64) uint64 {
	high, low := bits.Mul64(x, y)
	// So many times m, added to the product, make its low word 0, which then goes by
	// a shift of one word. It carries a 1 over, unless it was 0 from the beginning.
	fill, _ := bits.Mul64(low*f.filler, f.m)
	carry := (low | -low) >> 63
	// This is below m; where it is below 0 too, it has wrapped round, and its
	// highest bit says that m was taken away too early.
	less := high + fill + carry - f.m
	return less + f.m&-(less>>63)
}

// In is x in Montgomery's form.
func (f *Field) In(x uint64) (uint64, api.Errno) {
	if err := f.formError(); err != api.OK {
		return 0, err
	}
	return f.reduce(f.left(x), f.square), api.OK
}

// Times is the product of two in Montgomery's form.
func (f *Field) Times(x, y uint64) (uint64, api.Errno) {
	if err := f.formError(); err != api.OK {
		return 0, err
	}
	return f.reduce(f.left(x), f.left(y)), api.OK
}

// Out is the number that is in Montgomery's form.
func (f *Field) Out(x uint64) (uint64, api.Errno) {
	if err := f.formError(); err != api.OK {
		return 0, err
	}
	return f.reduce(f.left(x), 1), api.OK
}
