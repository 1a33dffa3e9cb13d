package brown

import (
	"vinculum/api"
	"vinculum/mpoly"
	"vinculum/upoly"
)

// byPoints is the greatest common divisor over a field, of polynomials that are not 0.
func byPoints(a, b mpoly.Poly, points []uint64) (mpoly.Poly, api.Errno) {
	r, vars := a.Ring(), seatsOf(a, b)
	s := searchOf(r.P, points, new(int))
	g, err := s.gcd(s.modulo(vars.parts(a)), s.modulo(vars.parts(b)), vars)
	if err != api.OK {
		return mpoly.Poly{}, err
	}
	whole, err := vars.poly(r, g.parts())
	if err != api.OK {
		return mpoly.Poly{}, err
	}
	return Norm(whole), api.OK
}

// gcd is the greatest common divisor, with 1 as its first coefficient, of polynomials that
// are not 0.
func (s search) gcd(a, b poly, vars seats) (poly, api.Errno) {
	if vars.shared <= 1 {
		return s.ofColumns(a, b), api.OK
	}
	if g, err := s.oneOf(a, b); g != nil || err != api.OK {
		return g, err
	}
	var take func(a, b poly, many int) (poly, api.Errno)
	take = func(a, b poly, many int) (poly, api.Errno) {
		if many == 1 {
			return s.ofColumns(a, b), s.limit()
		}
		contentA, contentB := s.content(a), s.content(b)
		g, err := s.byImages(s.without(a, contentA), s.without(b, contentB), func(a, b poly) (poly, api.Errno) {
			return take(a, b, many-1)
		})
		if err != api.OK {
			return nil, err
		}
		return s.times(g, s.common(contentA, contentB)), api.OK
	}
	return take(a, b, len(vars.vars))
}

// oneOf is the one of both that divides the other one; nil, if none does. It would be found
// anyhow, but in many variables that may take more points than there are.
func (s search) oneOf(a, b poly) (poly, api.Errno) {
	is, err := s.divides(a, b)
	if is || err != api.OK {
		return s.monic(a), err
	}
	is, err = s.divides(b, a)
	if is || err != api.OK {
		return s.monic(b), err
	}
	return nil, api.OK
}

// ofColumns is the greatest common divisor of all columns of both: a polynomial of the last
// variable.
func (s search) ofColumns(a, b poly) poly {
	return columnAt(0, s.common(s.content(a), s.content(b)))
}

// byImages is the greatest common divisor of polynomials with 1 as their content, by that of
// polynomials without the last variable.
func (s search) byImages(a, b poly, below func(a, b poly) (poly, api.Errno)) (poly, api.Errno) {
	highA, highB := a.highest().last(), b.highest().last()
	w := &pair{search: s, a: a, b: b, below: below, high: max(highA, highB)}
	if w.high == 0 {
		image, err := below(w.at(0)) // it is the same at each point
		return image.widened(), err
	}
	w.lead = s.common(a.first(), b.first())
	// What it is multiplied by, to have the lead, divides the first column of what is left
	// of a, divided by it: so the product has no higher powers than a, nor than b.
	w.full = min(highA, highB) + 1
	return found(w, s.points)
}

// pair is two polynomials with 1 as their content, and what is known of their greatest
// common divisor, times so much that its first column is the lead.
type pair struct {
	search
	a, b  poly
	below func(a, b poly) (poly, api.Errno)
	high  int        // the greatest exponent of the last variable in both
	lead  upoly.Poly // the greatest common divisor of both first columns
	full  int        // so many images tell it, if they are good
	known join[upoly.Poly]
}

// image is the one at a point.
func (w *pair) image(x uint64) (poly, api.Errno) {
	first := w.polys.Eval(w.lead, x)
	if first == 0 {
		return nil, api.ErrBudget // it may lack the first column, and so have a place that is too low
	}
	image, err := w.below(w.at(x))
	if err != api.OK {
		return nil, err
	}
	return w.scaled(image, first), api.OK
}

// at is both polynomials at a point. Neither is 0, as their content is 1.
func (w *pair) at(x uint64) (poly, poly) {
	w.count(pointWork + len(w.a) + len(w.b))
	powers := w.powers(x, w.high)
	return w.value(w.a, powers), w.value(w.b, powers)
}

// tell goes after Newton.
//
// As many images as tell it, if they are good, were asked whether they do. So if there are that
// many, none was good, nor is another one with their first place: only one with a lower place
// goes on. (Rows of more images would also have powers that a place may have no room for.)
func (w *pair) tell(x uint64, image poly) bool {
	if !w.known.admits(image, upoly.Poly{1}) || w.known.many == w.full {
		return false
	}
	all := w.known.all // it is 0 at all points that were told
	inverse, _ := w.numbers.Inv(w.polys.Eval(all, x))
	had := w.known.tell(image, func(row upoly.Poly, value uint64) (upoly.Poly, bool) {
		lacks := w.numbers.Sub(value, w.polys.Eval(row, x))
		if lacks == 0 {
			return row, true
		}
		return w.polys.Add(row, w.product(all, upoly.Poly{w.numbers.Mul(lacks, inverse)})), false
	})
	w.known.all = w.product(all, upoly.Poly{w.numbers.Sub(0, x), 1})
	w.count(len(w.known.places) * w.known.many)
	return had || w.known.many == w.full
}

// sure is what divides both: by its first place, it is the greatest one then.
func (w *pair) sure() (poly, api.Errno) {
	if w.known.many == 0 {
		return nil, api.ErrBudget
	}
	g := w.whole()
	is, err := w.dividesBoth(g)
	switch {
	case err != api.OK:
		return nil, err
	case !is:
		return nil, api.ErrBudget
	default:
		return g, api.OK
	}
}

func (w *pair) one() poly { return poly{{0, 1}} }

// whole is what the images come to, with 1 as its content and as its first coefficient.
func (w *pair) whole() poly {
	var g poly
	for _, at := range w.known.falling() {
		g = append(g, columnAt(at, w.known.rows[at])...)
	}
	return w.monic(w.without(g, w.content(g)))
}

// dividesBoth tells whether a polynomial does so.
func (w *pair) dividesBoth(g poly) (bool, api.Errno) {
	is, err := w.divides(g, w.a)
	if !is || err != api.OK {
		return false, err
	}
	return w.divides(g, w.b)
}
