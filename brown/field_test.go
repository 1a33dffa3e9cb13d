package brown_test

import (
	"slices"
	"testing"

	"vinculum/api"
	"vinculum/bigint"
	"vinculum/brown"
	"vinculum/mpoly"
)

// within is a polynomial with exponents below a number of some variables, and no others.
func (s *source) within(t *testing.T, r api.Ring, n, below int, vars ...int) mpoly.Poly {
	t.Helper()
	each := slices.Repeat(list{1}, len(r.Vars))
	for _, v := range vars {
		each[v] = below
	}
	for {
		if a := polyOf(t, r, s.terms(n, each...)); a.Len() > 0 {
			return a
		}
	}
}

// fields are some of each kind, of so many variables.
func fields(vars int) []api.Ring {
	var all []api.Ring
	for i, p := range []uint64{2, 3, 7, 97, 998244353, greatest} {
		all = append(all, ring(p, termOrders()[i%3], vars))
	}
	return all
}

func TestNoVariableInBoth(t *testing.T) { // P21.2: no points are needed
	s := source(41)
	for _, r := range fields(4) {
		for _, c := range [][2]list{{{0}, {1}}, {{0, 1}, {2, 3}}, {{2}, {0, 1, 3}}, {{}, {0, 1, 2, 3}}, {{}, {}}, {{3}, {}}} {
			for range 5 {
				a, b := s.within(t, r, 5, mostIn+1, c[0]...), s.within(t, r, 5, mostIn+1, c[1]...)
				wantGcd(t, "no variable in both", a, b, brown.Choices{}, number(t, r, 1))
			}
		}
	}
}

func TestOneVariable(t *testing.T) { // P21.2: no points are needed, whichever variable it is
	s := source(42)
	for _, vars := range []int{1, 2, 4, 8} {
		for _, r := range fields(vars) {
			for v := range vars {
				g, x, y := s.within(t, r, 4, 6, v), s.within(t, r, 4, 6, v), s.within(t, r, 4, 6, v)
				a, b := product(t, g, x), product(t, g, y)
				wantGcd(t, "one variable", a, b, brown.Choices{}, plainGcd(t, a, b))
				wantGcd(t, "one variable of one, none of the other one", a, number(t, r, 1), brown.Choices{}, number(t, r, 1))
			}
		}
	}
}

func TestOneVariableOfOne(t *testing.T) { // P21.2: no points are needed, though the other one has others too
	s := source(43)
	for _, r := range fields(3) {
		for v := range 3 {
			for range 4 {
				g, x := s.within(t, r, 3, 4, v), s.within(t, r, 3, 4, v)
				a, b := product(t, g, x), product(t, g, s.other(t, r, 5, 3))
				wantGcd(t, "one variable of one", a, b, brown.Choices{}, plainGcd(t, a, b))
			}
		}
	}
}

func TestOneVariableInBoth(t *testing.T) { // P21.2: the one that both have comes to the answer
	s := source(44)
	for _, r := range fields(5) {
		for range 5 {
			g := s.within(t, r, 3, 4, 2)
			a, b := product(t, g, s.within(t, r, 4, 3, 0, 1, 2)), product(t, g, s.within(t, r, 4, 3, 2, 3, 4))
			wantGcd(t, "one variable in both", a, b, brown.Choices{}, plainGcd(t, a, b))
		}
	}
}

func TestOneVariableHighPowers(t *testing.T) { // P21.2: up to the 200th, in many terms
	s := source(45)
	for _, r := range fields(3) {
		g, x, y := s.within(t, r, 90, 100, 1), s.within(t, r, 90, 102, 1), s.within(t, r, 90, 102, 1)
		a, b := product(t, g, x), product(t, g, y)
		got := fine(t)(brown.Field(a, b, nil))
		wantTests(t, "high powers", got, a, b, true, api.OK)
		wantTests(t, "high powers, a multiple", g, got, got, true, api.OK)
		if r.P > 1<<20 {
			wantSame(t, "high powers", got, asItIsToBe(t, g))
		}
		// a column for each power of x and z, 30000 of them
		var l []mpoly.Term
		for i := range 30000 {
			l = append(l, mpoly.Term{E: list{i % 200, 100, i / 200}, C: bigint.Of(1)}, mpoly.Term{E: list{i % 200, 0, i / 200}, C: bigint.Of(-1)})
		}
		many := polyOf(t, r, l)
		wantGcd(t, "y^200 - 1 and many times y^100 - 1", made(t, r, list{1, 0, mostIn, 0}, list{-1, 0, 0, 0}), many, brown.Choices{}, asItIsToBe(t, made(t, r, list{1, 0, 100, 0}, list{-1, 0, 0, 0})))
	}
}

func TestFewPoints(t *testing.T) { // P21.2: as many as a power needs, wherever they are
	s := source(46)
	r := ring(greatest, api.Lex, 2)
	for n := range 12 {
		g := fine(t)(s.within(t, r, 3*n+3, n+1, 0, 1).Add(made(t, r, list{1, 12, n})))
		a, b := product(t, g, linear(t, r, 1, 1, 1)), product(t, g, linear(t, r, 1, -1, 3))
		var far row
		for range n + 3 {
			far = append(far, s.word())
		}
		for _, l := range []row{points(1, n+3), far} {
			wantGcd(t, "few points", a, b, brown.Choices{Points: l}, asItIsToBe(t, g))
		}
	}
}
