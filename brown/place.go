package brown

const (
	seatBits = 8 // they hold a variable's exponent, which is no more than mostIn
	allBits  = 64
)

// place is a term's exponents, of variables one behind another, that of the last one in the
// lowest bits: so the greater place stands ahead by Lex. As long as no exponent is too great
// for its bits, places are multiplied by adding them.
type place uint64

// above is the place without the last variable.
func (at place) above() place { return at >> seatBits }

// last is the last variable's exponent.
func (at place) last() int { return int(at & (1<<seatBits - 1)) }

// with is a place with one more variable behind it.
func (at place) with(exponent int) place { return at<<seatBits | place(exponent) }

// holds tells whether no exponent is below that of another place.
func (at place) holds(other place) bool { return at.higher(other) == at }

// higher is the greater one of both exponents, variable by variable.
func (at place) higher(other place) place {
	var high place
	for bits := 0; bits < allBits; bits += seatBits {
		seat := place(1<<seatBits-1) << bits
		high |= max(at&seat, other&seat)
	}
	return high
}
