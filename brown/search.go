package brown

import (
	"vinculum/api"
	"vinculum/upoly"
)

// Work is counted in products of words, and in what takes as long. It has a limit, as in many
// variables there is no end of points.
const (
	mostWork   = 1 << 31
	pointWork  = 1000 // of a point, however short the polynomials are
	columnWork = 16   // of a product, however short the columns are
)

// search is one for a greatest common divisor over a field.
type search struct {
	field
	points []uint64 // each once
	work   *int     // what was done in the call
}

// searchOf is one by points, modulo a prime.
func searchOf(p uint64, points []uint64, work *int) search {
	f := fieldOf(p)
	list := make([]uint64, len(points))
	for i, x := range points {
		list[i] = f.numbers.Of(x)
	}
	return search{f, once(list), work}
}

// once is a list's numbers, each where it comes first.
func once(l []uint64) []uint64 {
	var list []uint64
	there := make(map[uint64]struct{}, len(l))
	for _, x := range l {
		if _, is := there[x]; !is {
			there[x] = struct{}{}
			list = append(list, x)
		}
	}
	return list
}

// count adds work.
func (s search) count(work int) { *s.work += work }

// limit is ErrLimit, if too much was done.
func (s search) limit() api.Errno {
	if *s.work > mostWork {
		return api.ErrLimit
	}
	return api.OK
}

// content is the greatest common divisor of all columns.
func (s search) content(a poly) upoly.Poly {
	var all upoly.Poly
	for _, u := range a.columns() {
		all = s.common(all, u)
		if len(all) == 1 {
			break
		}
	}
	return all
}

// common is the greatest common divisor of polynomials of one variable.
func (s search) common(a, b upoly.Poly) upoly.Poly {
	s.count(len(a) * len(b))
	return s.polys.Gcd(a, b)
}
