package roots

import (
	"slices"

	"vinculum/api"
	"vinculum/upoly"
)

// Roots is the numbers at which a polynomial is 0, rising; seeds tell them apart.
func Roots(p uint64, a upoly.Poly, seeds []uint64) ([]uint64, api.Errno) {
	f, err := fieldFor(p, a)
	if err != api.OK {
		return nil, err
	}
	if p == 2 {
		return f.rootsAmong(a, 0, 1), api.OK
	}
	s := search{field: f}
	s.keep(f.linear(a))
	for _, seed := range seeds {
		if len(s.mixed) == 0 {
			break
		}
		s.tell(seed)
	}
	if len(s.mixed) > 0 {
		return nil, api.ErrBudget
	}
	slices.Sort(s.found)
	return s.found, api.OK
}

// rootsAmong is those of some numbers at which a polynomial is 0.
func (f field) rootsAmong(a upoly.Poly, numbers ...uint64) []uint64 {
	var roots []uint64
	for _, x := range numbers {
		if f.polys.Eval(a, x) == 0 {
			roots = append(roots, x)
		}
	}
	return roots
}

// search is how far the roots of a polynomial are told apart.
type search struct {
	field
	found []uint64
	// mixed is what is still to be told apart: products of x less each of two roots or
	// more. room is that for the next ones.
	mixed, room []upoly.Poly
}

// keep takes a product of x less each of some roots, which are told from all others.
func (s *search) keep(product upoly.Poly) {
	switch deg := len(product) - 1; {
	case deg == 1:
		s.found = append(s.found, s.numbers.Sub(0, product[0]))
	case deg > 1:
		s.mixed = append(s.mixed, product)
	}
}

// tell tells apart what a seed does.
func (s *search) tell(seed uint64) {
	mixed := s.mixed
	s.mixed = s.room
	for _, product := range mixed {
		ones := s.ones(product, seed)
		others, _, _ := s.polys.DivMod(product, ones)
		s.keep(ones)
		s.keep(others)
	}
	// The room is used again: what is told apart is not to be kept there that long.
	clear(mixed)
	s.room = mixed[:0]
}

// ones is the product of x less each of those roots that leave 1, by a seed.
func (s *search) ones(product upoly.Poly, seed uint64) upoly.Poly {
	power, _ := s.polys.PowMod(upoly.Poly{seed, 1}, s.half(), product)
	return s.polys.Gcd(product, s.polys.Sub(power, upoly.Poly{1}))
}
