package conv

import (
	"math/bits"

	"vinculum/tft"
	"vinculum/word"
)

// primes are the greatest three below 2 to the 63rd that leave 1, divided by 2 to the
// 20th, as prime.Scan finds them: of them there are plans for all products. A coefficient
// of a product is a sum of at most 2 to the 19th products of two words, so it is below 2
// to the 147th, far below the primes' product: what it leaves by them tells it.
var primes = [3]uint64{9223372036836950017, 9223372036818075649, 9223372036797104129}

// plansFor are one for each prime, for products of so many coefficients.
func plansFor(many int) [3]*tft.Plan {
	var plans [3]*tft.Plan
	k := bits.Len(uint(many - 1))
	for i, p := range primes {
		plans[i], _ = tft.New(p, k)
	}
	return plans
}

// product is that of two polynomials over the integers.
func product(a, b []uint64) []wide {
	if len(a) == 0 || len(b) == 0 {
		return nil
	}
	many := len(a) + len(b) - 1
	var left [3][]uint64
	for i, plan := range plansFor(many) {
		left[i], _ = plan.Mul(a, b)
	}
	join := newJoiner()
	sums := make([]wide, many)
	for i := range sums {
		sums[i] = join.number([3]uint64{left[0][i], left[1][i], left[2][i]})
	}
	return sums
}

// joiner puts a number together from what it leaves by each prime, after Garner.
type joiner struct {
	fields [3]*word.Field
	// inverses are, at i and j, what the prime at j times is 1 modulo that at i, in
	// Montgomery's form: a number times such a form is a number.
	inverses [3][3]uint64
}

func newJoiner() joiner {
	var join joiner
	for i, p := range primes {
		field, _ := word.New(p)
		join.fields[i] = field
		for j := range i {
			inverse, _ := field.Inv(primes[j])
			join.inverses[i][j], _ = field.In(inverse)
		}
	}
	return join
}

// number is the least from 0 on that leaves these.
func (join *joiner) number(left [3]uint64) wide {
	digits := join.digits(left)
	var x wide
	for i := len(digits) - 1; i >= 0; i-- {
		x = x.timesAnd(primes[i], digits[i])
	}
	return x
}

// digits are of the number that leaves these: the first one, and the second one times
// the first prime, and the third one times both.
func (join *joiner) digits(left [3]uint64) [3]uint64 {
	for i, field := range join.fields {
		for j := range i {
			left[i], _ = field.Times(field.Sub(left[i], left[j]), join.inverses[i][j])
		}
	}
	return left
}

// wide is a number from 0 on, as three words, the lowest one first.
type wide [3]uint64

// timesAnd is x times a word, and another word.
func (x wide) timesAnd(by, and uint64) wide {
	for i, w := range x {
		high, low := bits.Mul64(w, by)
		low, carry := bits.Add64(low, and, 0)
		x[i], and = low, high+carry
	}
	return x
}

// left is what is left of x, divided by m.
func (x wide) left(m uint64) uint64 {
	left := uint64(0)
	for i := len(x) - 1; i >= 0; i-- {
		_, left = bits.Div64(left, x[i], m)
	}
	return left
}
