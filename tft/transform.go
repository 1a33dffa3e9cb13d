package tft

import (
	"math/bits"

	"vinculum/word"
)

// A block of s numbers, 2 to some power, is what a polynomial leaves by the product of
// x less each of s points that follow one another, from a place that is a multiple of s
// on: of all blocks of s numbers it is the one of that multiple. The product is x to
// the sth less the square of c, where c is the point at twice the block's own place. As
// it is that of x to the half of s less c and of x to the half of s and c, the block's
// halves are blocks too, whose places are twice its own and the next one; and the
// numbers of a block of one are values.

// formsOfPoints are the points at the even places, in Montgomery's form, but none of a
// plan of one point: it asks for none, and its field may have no forms.
func formsOfPoints(f *word.Field, root uint64, k int) []uint64 {
	forms := make([]uint64, 1<<k/2)
	power := uint64(1)
	for i := range forms {
		// An even place has one bit less to be turned about.
		forms[turned(i, k-1)], _ = f.In(power)
		power = f.Mul(power, root)
	}
	return forms
}

// block is the first one of the least size that has room for so many numbers, and the
// numbers of a list in it.
func (t *Plan) block(l []uint64, many int) []uint64 {
	list := make([]uint64, 1<<bits.Len(uint(many-1)))
	for i, x := range l {
		list[i] = t.field.Of(x)
	}
	return list
}

// values are those of a polynomial at the first points, so many.
func (t *Plan) values(l []uint64, many int) []uint64 {
	if many == 0 {
		return nil
	}
	list := t.block(l, max(len(l), many))
	t.down(list, 0, many)
	return list[:many:many]
}

// coefficients are those of the polynomial that has values at the first points.
func (t *Plan) coefficients(l []uint64) []uint64 {
	many := len(l)
	if many == 0 {
		return nil
	}
	list := t.block(l, many)
	t.up(list, 0, many)
	return list[:many:many]
}

// halves are those of a list; neither reaches into the other, nor beyond the list.
func halves(list []uint64) (low, high []uint64) {
	half := len(list) / 2
	return list[:half:half], list[half:len(list):len(list)]
}

// down makes of a block's coefficients its first values, so many. What it leaves
// behind them is neither.
func (t *Plan) down(list []uint64, place, many int) {
	if many == 0 || len(list) == 1 {
		return
	}
	low, high := halves(list)
	form := t.forms[place]
	for i := range low {
		// Times of a number and a form is the plain product: no number need be a form.
		product, _ := t.field.Times(high[i], form)
		low[i], high[i] = t.field.Add(low[i], product), t.field.Sub(low[i], product)
	}
	t.down(low, 2*place, min(many, len(low)))
	t.down(high, 2*place+1, max(many-len(low), 0))
}

// up makes of a block, whose first numbers, so many, are values, and whose others are
// coefficients already, one of coefficients alone.
func (t *Plan) up(list []uint64, place, many int) {
	switch {
	case many == 0 || len(list) == 1:
	case many <= len(list)/2:
		t.upByLow(list, place, many)
	default:
		t.upByBoth(list, place, many)
	}
}

// upByLow is up where no value is one of the higher half's: all its coefficients are
// known, and so the lower half alone is to be found.
func (t *Plan) upByLow(list []uint64, place, many int) {
	low, high := halves(list)
	form := t.forms[place]
	for i := many; i < len(low); i++ {
		product, _ := t.field.Times(high[i], form)
		low[i] = t.field.Add(low[i], product)
	}
	t.up(low, 2*place, many)
	for i := range low {
		product, _ := t.field.Times(high[i], form)
		low[i] = t.field.Sub(low[i], product)
	}
}

// upByBoth is up where all values of the lower half are known: it is found first, and
// with it what is still missing of the higher one.
func (t *Plan) upByBoth(list []uint64, place, many int) {
	low, high := halves(list)
	form, inverse := t.forms[place], t.inverseForm(place)
	more := many - len(low)
	t.up(low, 2*place, len(low))
	for i := more; i < len(high); i++ {
		product, _ := t.field.Times(high[i], form)
		high[i] = t.field.Sub(low[i], t.field.Add(product, product))
	}
	t.up(high, 2*place+1, more)
	for i := range low {
		sum, product := t.field.Add(low[i], high[i]), t.field.Sub(low[i], high[i])
		product, _ = t.field.Times(product, inverse)
		low[i], high[i] = t.halved(sum), t.halved(product)
	}
}

// inverseForm is that of the inverse of a block's c, whose form is at a place.
func (t *Plan) inverseForm(place int) uint64 {
	if place == 0 {
		return t.forms[0]
	}
	// The inverse of w to the eth is w to the (half of n, less e) with its sign changed.
	// That exponent has all bits above e's lowest one turned over: those below the
	// highest one of the place.
	below := 1<<(bits.Len(uint(place))-1) - 1
	return t.field.Sub(0, t.forms[place^below])
}

// halved is what x is twice of, modulo a prime that is not 2.
func (t *Plan) halved(x uint64) uint64 {
	if x%2 == 1 {
		x += t.field.M()
	}
	return x / 2
}
