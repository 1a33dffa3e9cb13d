package ntt

import (
	"math/bits"

	"vinculum/word"
)

// each is the one loop of all that is done to numbers at their places.
func each(n int, do func(i int)) {
	for i := range n {
		do(i)
	}
}

// turned is the place whose k bits are those of i, the other way about.
func turned(i, k int) int { return int(bits.Reverse64(uint64(i)) >> (64 - k)) }

// formsOfPowers are the first n powers of a root, in Montgomery's form. A field
// that has no forms has no root but 1, and n is 0 there.
func formsOfPowers(f *word.Field, root uint64, n int) []uint64 {
	forms := make([]uint64, n)
	power := uint64(1)
	each(n, func(i int) {
		forms[i], _ = f.In(power)
		power = f.Mul(power, root)
	})
	return forms
}

// values are those of a polynomial of at most n coefficients at the n powers of
// the root's power whose order is n, which is 2 to the kth, for k up to the table's.
func (t *Table) values(l []uint64, k int) []uint64 {
	n := 1 << k
	list := make([]uint64, n)
	each(len(l), func(i int) { list[turned(i, k)] = t.field.Of(l[i]) })
	for half := 1; half < n; half *= 2 {
		step := len(t.forms) / half
		each(n/2, func(i int) {
			// A pair stands half apart, within a block of two halves.
			at := i & (half - 1)
			t.together(list, 2*i-at, half, t.forms[at*step])
		})
	}
	return list
}

// together makes of two values, those of the even and of the odd powers' parts of a
// polynomial, its values at a point and at the one of the other sign.
func (t *Table) together(list []uint64, low, half int, form uint64) {
	even := list[low]
	// Times of a number and a form is the plain product: no number need be a form.
	odd, _ := t.field.Times(list[low+half], form)
	list[low], list[low+half] = t.field.Add(even, odd), t.field.Sub(even, odd)
}

// coefficients are those of the polynomial whose values are n numbers, 2 to the kth.
func (t *Table) coefficients(l []uint64, k int) []uint64 {
	n := 1 << k
	// The values' values are the coefficients, n times each, but at the powers of
	// the root's inverse: all places but the first one are gone through backwards.
	values := t.values(l, k)
	inverse, _ := t.field.Inv(uint64(n))
	list := make([]uint64, n)
	each(n, func(i int) { list[i] = t.field.Mul(values[-i&(n-1)], inverse) })
	return list
}

// round is the product of two polynomials of at most n coefficients, 2 to the kth,
// modulo x to the nth less 1.
func (t *Table) round(a, b []uint64, k int) []uint64 {
	values, others := t.values(a, k), t.values(b, k)
	each(len(values), func(i int) { values[i] = t.field.Mul(values[i], others[i]) })
	return t.coefficients(values, k)
}
