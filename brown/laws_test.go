package brown_test

import (
	"testing"

	"vinculum/api"
	"vinculum/brown"
	"vinculum/mpoly"
	"vinculum/quot"
)

// lawRings are some in which there are points enough.
func lawRings() []api.Ring {
	var all []api.Ring
	for i, p := range []uint64{0, 97, 998244353, greatest} {
		for vars := 1; vars <= 4; vars++ {
			all = append(all, ring(p, termOrders()[(i+vars)%3], vars))
		}
	}
	return all
}

// gcd is what Gcd answers, where there is to be no error.
func gcd(t *testing.T, a, b mpoly.Poly) mpoly.Poly {
	t.Helper()
	return fine(t)(brown.Gcd(a, b, plenty()))
}

func TestWhatAGreatestCommonDivisorIs(t *testing.T) { // P21.5: it divides both, and what divides both divides it
	s := source(61)
	for _, r := range lawRings() {
		for range 12 {
			d, e := s.other(t, r, 2, 2), s.other(t, r, 2, 2)
			common := product(t, d, e)
			a, b := product(t, common, s.other(t, r, 3, 2)), product(t, common, s.other(t, r, 3, 2))
			g := gcd(t, a, b)
			wantTests(t, "it divides both", g, a, b, true, api.OK)
			for _, x := range []mpoly.Poly{d, e, common} {
				wantTests(t, "what divides both divides it", x, g, g, true, api.OK)
			}
			wantSame(t, "it is as it is to be", g, brown.Norm(g))
		}
	}
}

func TestOrderDoesNotCount(t *testing.T) { // P21.5: nor what was found ahead
	s := source(62)
	for _, r := range lawRings() {
		for range 6 {
			d := s.other(t, r, 2, 2)
			a, b, c := product(t, d, s.other(t, r, 2, 2)), product(t, d, s.other(t, r, 2, 2)), product(t, d, s.other(t, r, 2, 2))
			wantSame(t, "a and b, b and a", gcd(t, a, b), gcd(t, b, a))
			wantSame(t, "of three", gcd(t, gcd(t, a, b), c), gcd(t, a, gcd(t, b, c)))
		}
	}
}

func TestFactorsOfBoth(t *testing.T) { // P21.5: what both are multiplied by is a factor of it
	s := source(63)
	for _, r := range lawRings() {
		for range 6 {
			a, b, c := s.other(t, r, 3, 2), s.other(t, r, 3, 2), s.other(t, r, 3, 2)
			g := gcd(t, product(t, a, c), product(t, b, c))
			wantTests(t, "what both are multiplied by", c, g, g, true, api.OK)
			wantSame(t, "what both are multiplied by, times theirs", g, brown.Norm(product(t, c, gcd(t, a, b))))
		}
	}
}

func TestWhatIsLeftOfBoth(t *testing.T) { // P21.5: divided by it, both have 1 in common
	s := source(64)
	for _, r := range lawRings() {
		for range 6 {
			c := s.other(t, r, 3, 2)
			a, b := product(t, c, s.other(t, r, 3, 2)), product(t, c, s.other(t, r, 3, 2))
			g := gcd(t, a, b)
			wantSame(t, "what is left of both", gcd(t, fine(t)(quot.Div(a, g)), fine(t)(quot.Div(b, g))), number(t, r, 1))
		}
	}
}

func TestMultiplesOfEachOther(t *testing.T) { // P21.5: one that divides the other one is it
	s := source(65)
	for _, r := range lawRings() {
		for range 6 {
			a, b := s.other(t, r, 4, 3), s.other(t, r, 4, 3)
			wantSame(t, "one and its multiple", gcd(t, a, product(t, a, b)), brown.Norm(a))
			wantSame(t, "it and a", gcd(t, gcd(t, a, b), a), gcd(t, a, b))
		}
	}
}

func TestTheSameByAllOrdersOfTerms(t *testing.T) { // P21.3: a ring's order tells how terms stand, and the unit
	s := source(66)
	for _, p := range []uint64{0, 97, greatest} {
		for range 20 {
			x, y, z := s.terms(4, 3, 3, 3), s.terms(4, 3, 3, 3), s.terms(3, 3, 3, 3)
			var all []mpoly.Poly
			for _, order := range termOrders() {
				r := ring(p, order, 3)
				c := polyOf(t, r, z)
				g := gcd(t, product(t, polyOf(t, r, x), c), product(t, polyOf(t, r, y), c))
				all = append(all, brown.Norm(polyOf(t, ring(p, api.Lex, 3), g.Terms())))
			}
			wantSame(t, "by GrLex", all[1], all[0])
			wantSame(t, "by GrevLex", all[2], all[0])
		}
	}
}
