package brown

import (
	"vinculum/api"
	"vinculum/bigint"
	"vinculum/calc"
	"vinculum/crt"
	"vinculum/mpoly"
)

// byPrimes is the greatest common divisor over the integers, of polynomials that are not 0.
func byPrimes(a, b mpoly.Poly, c Choices) (mpoly.Poly, api.Errno) {
	w := liftOf(calc.Primitive(a), calc.Primitive(b), c.Points)
	g, err := w.one(), api.OK
	if w.vars.shared > 0 {
		g, err = found(w, once(c.Primes))
	}
	if err != api.OK {
		return mpoly.Poly{}, err
	}
	return times(g, calc.Content(a).Gcd(calc.Content(b))), api.OK
}

// times is a polynomial, times a number.
func times(a mpoly.Poly, number bigint.Int) mpoly.Poly {
	b, _ := a.Scale(mpoly.Term{E: make([]int, len(a.Ring().Vars)), C: number}) // no exponent grows
	return b
}

// lift is two polynomials with 1 as their content, and what is known of their greatest
// common divisor, times so much that its first coefficient is the lead.
type lift struct {
	a, b           mpoly.Poly
	vars           seats
	partsA, partsB []part
	lead           bigint.Int // the greatest number that divides both first coefficients
	points         []uint64
	work           int // of all primes
	known          join[bigint.Int]
}

func liftOf(a, b mpoly.Poly, points []uint64) *lift {
	w := &lift{a: a, b: b, vars: seatsOf(a, b), points: points}
	w.partsA, w.partsB = w.vars.parts(a), w.vars.parts(b)
	w.lead = w.partsA[0].c.Gcd(w.partsB[0].c)
	return w
}

// image is the one modulo a prime.
func (w *lift) image(p uint64) (poly, api.Errno) {
	first, _ := w.lead.Mod(p)
	if first == 0 {
		return nil, api.ErrBudget // it may lack the first term, and so have a place that is too low
	}
	s := searchOf(p, w.points, &w.work)
	image, err := s.gcd(s.modulo(w.partsA), s.modulo(w.partsB), w.vars)
	if err != api.OK {
		return nil, err
	}
	return s.scaled(image, first), api.OK
}

// tell goes by the least numbers, of either sign, that leave what all images do.
func (w *lift) tell(p uint64, image poly) bool {
	if !w.known.admits(image, bigint.Of(1)) {
		return false
	}
	all := w.known.all
	both := all.Mul(bigint.Of(int(p))) // a prime is below 2 to the 63rd
	had := w.known.tell(image, func(row bigint.Int, left uint64) (bigint.Int, bool) {
		next, _, _ := crt.Step(row, all, left, p)
		next, _ = crt.Near(next, both)
		return next, next.Cmp(row) == 0
	})
	w.known.all = both
	return had
}

// sure is what divides both, with 1 as its content: by its first place, it is the greatest
// one then. (Without images it is 0, which divides none.)
func (w *lift) sure() (mpoly.Poly, api.Errno) {
	var list []part
	for _, at := range w.known.falling() {
		list = append(list, part{at, w.known.rows[at]})
	}
	g, err := w.vars.poly(w.a.Ring(), list)
	if err != api.OK {
		return mpoly.Poly{}, err
	}
	g = calc.Primitive(g)
	is, err := Tests(g, w.a, w.b)
	switch {
	case err != api.OK:
		return mpoly.Poly{}, err
	case !is:
		return mpoly.Poly{}, api.ErrBudget
	default:
		return g, api.OK
	}
}

func (w *lift) one() mpoly.Poly {
	g, _ := w.vars.poly(w.a.Ring(), []part{{0, bigint.Of(1)}}) // the ring is that of a polynomial
	return g
}
