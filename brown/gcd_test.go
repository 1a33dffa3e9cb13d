package brown_test

import (
	"slices"
	"testing"

	"vinculum/api"
	"vinculum/bigint"
	"vinculum/brown"
	"vinculum/mpoly"
)

// rings are some of each kind, of up to so many variables.
func rings(vars int) []api.Ring {
	var all []api.Ring
	for _, p := range []uint64{0, 2, 3, 7, 97, 998244353, greatest} {
		for n := range vars + 1 {
			for _, order := range termOrders() {
				all = append(all, ring(p, order, n))
			}
		}
	}
	return all
}

func TestExamples(t *testing.T) { // P21.3
	for _, order := range termOrders() {
		r := ring(0, order, 2)
		c := brown.Choices{Primes: primes(3), Points: points(2, 60)}
		wantGcd(t, "x^2 - y^2 and x^2 + 2xy + y^2", made(t, r, list{1, 2, 0}, list{-1, 0, 2}), made(t, r, list{1, 2, 0}, list{2, 1, 1}, list{1, 0, 2}), c, made(t, r, list{1, 1, 0}, list{1, 0, 1}))
		wantGcd(t, "6x and 4", made(t, r, list{6, 1, 0}), number(t, r, 4), c, number(t, r, 2))
		wantGcd(t, "0 and -3x", made(t, r), made(t, r, list{-3, 1, 0}), c, made(t, r, list{3, 1, 0}))
	}
}

func TestOfNought(t *testing.T) { // P21.2, P21.3: no choices are needed
	s := source(11)
	for _, r := range rings(3) {
		for range 5 {
			a := s.poly(t, r, 6, mostIn+1)
			wantGcd(t, "0 and another one", made(t, r), a, brown.Choices{}, asItIsToBe(t, a))
		}
		wantGcd(t, "0 and 0", made(t, r), made(t, r), brown.Choices{}, made(t, r))
	}
	wantGcd(t, "two zero Polys", mpoly.Poly{}, mpoly.Poly{}, plenty(), mpoly.Poly{})
}

// wantPlain holds Gcd against Euclid's steps.
func wantPlain(t *testing.T, what string, a, b mpoly.Poly) {
	t.Helper()
	wantGcd(t, what, a, b, plenty(), plainGcd(t, a, b))
}

func TestAgainstEuclid(t *testing.T) { // P21.3, T2: where there are enough points, there is no error
	s := source(12)
	for _, r := range rings(3) {
		if r.P > 0 && r.P < 97 {
			continue
		}
		for range 16 {
			g, u, v := s.poly(t, r, 1+s.below(4), 3), s.poly(t, r, 1+s.below(3), 3), s.poly(t, r, 1+s.below(3), 3)
			wantPlain(t, "multiples of one", product(t, g, u), product(t, g, v))
			wantPlain(t, "any two", g, u)
		}
		a := s.other(t, r, 4, 3)
		wantPlain(t, "one and its square", a, product(t, a, a))
		wantPlain(t, "one and itself", a, a)
		wantPlain(t, "one and 0 less it", a, a.Neg())
		wantPlain(t, "one and 1", a, number(t, r, 1))
	}
}

func TestSmallFields(t *testing.T) { // P21.2, T2: there are few points, but where these are enough the answer is right
	for _, c := range []struct {
		p       uint64
		missing int
	}{{2, 86}, {3, 75}, {5, 3}, {7, 0}} { // as many as were missing when this was written
		s, missing := source(13), 0
		for i := range 600 {
			r := ring(c.p, termOrders()[i%3], 2+i%2)
			g, u, v := s.other(t, r, 1+s.below(4), 3), s.other(t, r, 1+s.below(3), 3), s.other(t, r, 1+s.below(3), 3)
			a, b := product(t, g, u), product(t, g, v)
			got, err := brown.Field(a, b, points(0, 9))
			if err == api.OK {
				wantSame(t, "a small field", got, plainGcd(t, a, b))
			} else {
				missing++
				wantErr(t, "a small field", got, err, api.ErrBudget)
			}
		}
		if missing > c.missing {
			t.Errorf("modulo %d, %d of 600 were not found", c.p, missing)
		}
	}
}

// fewTerms are all polynomials of x and y with some exponents, one by one.
func fewTerms(t *testing.T, r api.Ring, places ...list) []mpoly.Poly {
	t.Helper()
	l := []mpoly.Poly{made(t, r)}
	for _, e := range places {
		for _, a := range l {
			for c := 1; c < int(r.P); c++ {
				l = append(l, fine(t)(a.Add(made(t, r, append(list{c}, e...)))))
			}
		}
	}
	return l
}

// divisors are, for each of some polynomials, which of them it divides.
func divisors(t *testing.T, all []mpoly.Poly) [][]bool {
	t.Helper()
	table := make([][]bool, len(all))
	for i, d := range all {
		table[i] = make([]bool, len(all))
		for j, a := range all {
			is, err := brown.Tests(d, a, a)
			if err != api.OK {
				t.Fatalf("Tests: error %d", int(err))
			}
			table[i][j] = is
		}
	}
	return table
}

func TestAllSmallOnes(t *testing.T) { // P21.2, P21.5: held against each polynomial that might divide both
	for _, c := range []struct {
		p      uint64
		places []list
	}{{2, []list{{0, 0}, {1, 0}, {0, 1}, {1, 1}, {2, 0}, {0, 2}}}, {3, []list{{0, 0}, {1, 0}, {0, 1}, {1, 1}}}} {
		r := ring(c.p, api.GrLex, 2)
		all := fewTerms(t, r, c.places...) // and all that divides one of them is among them
		divides, found := divisors(t, all), 0
		for i, a := range all {
			for j, b := range all {
				g, err := brown.Field(a, b, points(0, 3))
				if err == api.ErrBudget {
					continue
				}
				n := slices.IndexFunc(all, g.Is)
				if err != api.OK || n < 0 || !g.Is(asItIsToBe(t, g)) {
					t.Fatalf("over %v: got%s, error %d", r, short(g), int(err))
				}
				found++
				for d := range all {
					if divides[d][n] != (divides[d][i] && divides[d][j]) {
						t.Errorf("over %v: of%s and%s:%s is answered, and%s", r, short(a), short(b), short(g), short(all[d]))
					}
				}
			}
		}
		if found < len(all)*len(all)*9/10 {
			t.Errorf("over %v only %d of %d were found", r, found, len(all)*len(all))
		}
	}
}

func TestNumbersAlone(t *testing.T) { // P21.3: no primes and no points are needed
	for _, vars := range []int{0, 1, 3} {
		z, f := ring(0, api.Lex, vars), ring(7, api.Lex, vars)
		for a := -12; a <= 12; a++ {
			for b := -12; b <= 12; b++ {
				want := 0
				for d := 1; d <= 12; d++ {
					if a%d == 0 && b%d == 0 && a*a+b*b > 0 {
						want = d
					}
				}
				wantGcd(t, "numbers", number(t, z, a), number(t, z, b), brown.Choices{}, number(t, z, want))
				want = 0
				if a%7 != 0 || b%7 != 0 {
					want = 1
				}
				wantGcd(t, "numbers of a field", number(t, f, a), number(t, f, b), brown.Choices{}, number(t, f, want))
			}
		}
	}
}

func TestContents(t *testing.T) { // P21.3: over the integers numbers are divisors too
	for _, order := range termOrders() {
		r := ring(0, order, 2)
		g := made(t, r, list{2, 1, 1}, list{-3, 0, 0})
		u, v := made(t, r, list{5, 1, 0}, list{1, 0, 1}), made(t, r, list{7, 0, 1}, list{2, 0, 0})
		for _, c := range [][3]int{{12, 18, 6}, {-12, 18, 6}, {-12, -18, 6}, {35, 6, 1}, {1 << 40, 1 << 35, 1 << 35}} {
			a, b := product(t, number(t, r, c[0]), g, u), product(t, number(t, r, c[1]), g, v)
			wantGcd(t, "multiples by numbers", a, b, plenty(), asItIsToBe(t, product(t, number(t, r, c[2]), g)))
			wantGcd(t, "multiples by numbers of 1", product(t, number(t, r, c[0]), u), product(t, number(t, r, c[1]), v), plenty(), number(t, r, c[2]))
			wantGcd(t, "one and a number", a, number(t, r, c[1]), brown.Choices{}, number(t, r, gcdOf(c[0], c[1])))
		}
	}
}

func gcdOf(a, b int) int {
	for b != 0 {
		a, b = b, a%b
	}
	return max(a, -a)
}

func TestTheFirstCoefficient(t *testing.T) { // P21.3: the ring's order tells which it is
	for order, want := range map[int][]list{api.Lex: {{1, 1, 0}, {-1, 0, 2}}, api.GrLex: {{-1, 1, 0}, {1, 0, 2}}, api.GrevLex: {{-1, 1, 0}, {1, 0, 2}}} {
		r := ring(0, order, 2)
		a := made(t, r, list{1, 1, 0}, list{-1, 0, 2})
		wantGcd(t, "x - y^2", product(t, a, made(t, r, list{1, 1, 0})), product(t, a, made(t, r, list{1, 0, 1})), plenty(), made(t, r, want...))
		wantGcd(t, "0 and x - y^2", a, made(t, r), brown.Choices{}, made(t, r, want...))
	}
	for order, want := range map[int][]list{api.Lex: {{1, 1, 0}, {3, 0, 2}}, api.GrLex: {{5, 1, 0}, {1, 0, 2}}, api.GrevLex: {{5, 1, 0}, {1, 0, 2}}} {
		r := ring(7, order, 2)
		a := made(t, r, list{2, 1, 0}, list{6, 0, 2})
		wantGcd(t, "2x + 6y^2", product(t, a, made(t, r, list{1, 1, 0})), product(t, a, made(t, r, list{1, 0, 1})), plenty(), made(t, r, want...))
		wantGcd(t, "0 and 2x + 6y^2", a, made(t, r), brown.Choices{}, made(t, r, want...))
	}
}

func TestGreatNumbers(t *testing.T) { // P21.3: numbers of many words, of both signs
	s := source(14)
	for _, order := range termOrders() {
		r := ring(0, order, 2)
		for range 6 {
			var l []mpoly.Poly
			for _, bits := range []int{150, 90, 200} {
				a := great(t, s.other(t, r, 4, 3), bits)
				l = append(l, fine(t)(a.Add(s.other(t, r, 4, 3))))
			}
			wantPlain(t, "great numbers", product(t, l[0], l[1]), product(t, l[0], l[2]))
		}
	}
}

func TestManyVariables(t *testing.T) { // P21.3: some of which only one of both has
	s := source(15)
	for _, p := range []uint64{0, 998244353, greatest} {
		for vars := 4; vars <= mostVars; vars++ {
			r := ring(p, termOrders()[vars%3], vars)
			for range 6 {
				g, u, v := s.other(t, r, 3, 2), s.other(t, r, 2, 2), s.other(t, r, 2, 2)
				wantPlain(t, "many variables", product(t, g, u), product(t, g, v))
			}
		}
	}
}

// linear is a sum of variables, each times a number, and of a last number.
func linear(t *testing.T, r api.Ring, c ...int) mpoly.Poly {
	t.Helper()
	var l []mpoly.Term
	for v, n := range c {
		x := mpoly.Term{E: make(list, len(r.Vars)), C: bigint.Of(n)}
		if v < len(r.Vars) {
			x.E[v] = 1
		}
		l = append(l, x)
	}
	return polyOf(t, r, l)
}

// having is a polynomial without the terms that have a variable whose bit is not set.
func having(t *testing.T, a mpoly.Poly, bits int) mpoly.Poly {
	t.Helper()
	var l []mpoly.Term
	for _, x := range a.Terms() {
		if !slices.ContainsFunc([]int{0, 1, 2, 3}, func(v int) bool { return x.E[v] > 0 && bits>>v&1 == 0 }) {
			l = append(l, x)
		}
	}
	return polyOf(t, a.Ring(), l)
}

func TestWhichVariablesThereAre(t *testing.T) { // P21.3: each may be in both, in one, or in none
	for _, p := range []uint64{0, 97, greatest} {
		r := ring(p, api.GrevLex, 4)
		g, u, v := linear(t, r, 1, 2, 3, 4, 5), linear(t, r, 2, -3, 5, 1, 1), linear(t, r, 7, 5, -2, 2, 3)
		for i := range 1 << 12 / 7 {
			bits := 7 * i // enough of them: no one of the twelve bits goes with another one
			x := having(t, g, bits)
			wantPlain(t, "some variables", product(t, x, having(t, u, bits>>4)), product(t, x, having(t, v, bits>>8)))
		}
	}
}

func TestHighPowers(t *testing.T) { // P21.3: up to the 200th
	for _, p := range []uint64{0, greatest} {
		for _, order := range termOrders() {
			r := ring(p, order, 2)
			g := made(t, r, list{1, 100, 3}, list{2, 3, 90}, list{5, 0, 0})
			u, v := made(t, r, list{1, 100, 0}, list{-1, 0, 110}), made(t, r, list{3, 50, 60}, list{1, 1, 0}, list{-2, 0, 0})
			wantGcd(t, "high powers", product(t, g, u), product(t, g, v), plenty(), asItIsToBe(t, g))
			one := made(t, r, list{1, mostIn, 0}, list{-1, 0, mostIn})
			wantGcd(t, "x^200 - y^200 and x^125 - y^125", one, made(t, r, list{1, 125, 0}, list{-1, 0, 125}), plenty(), asItIsToBe(t, made(t, r, list{1, 25, 0}, list{-1, 0, 25})))
			wantGcd(t, "x^200 y^200 and x^199 y^3", made(t, r, list{1, mostIn, mostIn}), made(t, r, list{1, 199, 3}), plenty(), made(t, r, list{1, 199, 3}))
		}
		r := ring(p, api.Lex, 8)
		high := slices.Repeat(list{mostIn}, 8)
		a := polyOf(t, r, []mpoly.Term{{E: high, C: bigint.Of(6)}, {E: make(list, 8), C: bigint.Of(2)}})
		wantGcd(t, "all powers as high as may be", a, product(t, a, number(t, r, 3)), plenty(), asItIsToBe(t, a))
	}
}
