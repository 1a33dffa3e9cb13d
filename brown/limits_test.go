package brown_test

import (
	"testing"

	"vinculum/api"
	"vinculum/bigint"
	"vinculum/brown"
	"vinculum/mpoly"
)

// power is a variable to the nth, less 1.
func power(t *testing.T, r api.Ring, v, n int) mpoly.Poly {
	t.Helper()
	x := make(list, len(r.Vars)+1)
	x[0], x[v+1] = 1, n
	one := make(list, len(r.Vars)+1)
	one[0] = -1
	return made(t, r, x, one)
}

// grown are two polynomials of few terms, whose greatest common divisor has many: twice as
// many as n, for each variable's number n, times one another. (Of x^n - 1 and x^(n+1) - 1
// both divide x^(n(n+1)) - 1, but their product has x - 1 once too often.)
func grown(t *testing.T, r api.Ring, l ...int) (a, b mpoly.Poly) {
	t.Helper()
	a, b = number(t, r, 1), number(t, r, 1)
	for v, n := range l {
		a = product(t, a, power(t, r, v, n*(n+1)))
		b = product(t, b, power(t, r, v, n), power(t, r, v, n+1))
	}
	return a, b
}

func TestAsManyTermsAsMayBe(t *testing.T) { // P21.2, P21.3: 100000, and no more
	f := ring(greatest, api.Lex, 5)
	a, b := grown(t, f, 5, 5, 5, 5, 5)
	g := fine(t)(brown.Field(a, b, points(0, 300)))
	if g.Len() != mostTerms {
		t.Errorf("got %d terms", g.Len())
	}
	wantTests(t, "100000 terms", g, b, made(t, f), true, api.OK)
	for _, p := range []uint64{0, 97, greatest} {
		a, b = grown(t, ring(p, api.Lex, 5), 5, 5, 5, 5, 6)
		wantGcdErr(t, "120000 terms", a, b, plenty(), api.ErrLimit)
	}
}

func TestLongOnes(t *testing.T) { // P21.3: as many terms as may be handed in
	for _, p := range []uint64{0, greatest} {
		r := ring(p, api.GrevLex, 3)
		s := source(51)
		var l []mpoly.Term
		for i := range mostTerms {
			l = append(l, mpoly.Term{E: list{i % 50, i / 50 % 50, i / 2500}, C: s.number()})
		}
		a := polyOf(t, r, l)
		wantGcd(t, "one and its own", a, a, plenty(), asItIsToBe(t, a))
		wantGcd(t, "one and another one", a, linear(t, r, 1, 2, 3, 4), plenty(), number(t, r, 1))
	}
}

func TestLongDivisors(t *testing.T) { // P21.3: some hundreds of terms of both, and of what they have in common
	s := source(52)
	for _, r := range []api.Ring{ring(0, api.GrevLex, 2), ring(0, api.Lex, 3), ring(greatest, api.GrLex, 3), ring(998244353, api.Lex, 4)} {
		below := map[int]int{2: 16, 3: 6, 4: 4}[len(r.Vars)]
		g, u, v := s.other(t, r, 150, below), s.other(t, r, 150, below), s.other(t, r, 150, below)
		wantGcd(t, "a long one", product(t, g, u), product(t, g, v), plenty(), asItIsToBe(t, g))
	}
}

func TestADivisorThatTakesTooLong(t *testing.T) { // P21.3: over the integers it is divided by at last
	r := ring(0, api.Lex, 3)
	a, b := grown(t, r, 12, 12, 12)
	wantGcdErr(t, "a quotient of too many steps", a, b, plenty(), api.ErrLimit)
}

func TestItEnds(t *testing.T) { // R1: where no number of points would be enough in time
	for _, p := range []uint64{0, greatest} {
		t.Run(bigint.Of(int(p)).Print(), func(t *testing.T) {
			t.Parallel()
			s := source(53)
			r := ring(p, api.Lex, mostVars)
			g, u, v := s.other(t, r, 5, 100), s.other(t, r, 5, 100), s.other(t, r, 5, 100)
			got, err := brown.Gcd(product(t, g, u), product(t, g, v), plenty())
			wantErr(t, "high powers of eight variables", got, err, api.ErrLimit)
		})
	}
}
