package quot_test

import (
	"testing"

	"vinculum/api"
	"vinculum/bigint"
	"vinculum/mpoly"
	"vinculum/quot"
)

// wantBoth holds DivMod against rows of terms, and all three against the plain division.
func wantBoth(t *testing.T, what string, a, b mpoly.Poly, q, left []list) {
	t.Helper()
	r := a.Ring()
	gotQ, gotLeft := wantDivMod(t, what, a, b)
	wantSame(t, what+", the quotient", gotQ, made(t, r, q...))
	wantSame(t, what+", what is left", gotLeft, made(t, r, left...))
}

func TestExamples(t *testing.T) { // P19.1
	z := ring(0, api.Lex, 2)
	sum := made(t, z, list{1, 1, 0}, list{1, 0, 1})
	wantBoth(t, "x^2 - y^2 by x + y", made(t, z, list{1, 2, 0}, list{-1, 0, 2}), sum, []list{{1, 1, 0}, {-1, 0, 1}}, nil)
	wantBoth(t, "x^2 + 1 by x + y", made(t, z, list{1, 2, 0}, list{1, 0, 0}), sum, []list{{1, 1, 0}, {-1, 0, 1}}, []list{{1, 0, 2}, {1, 0, 0}})
	wantBoth(t, "3x by 2", made(t, z, list{3, 1, 0}), number(t, z, 2), nil, []list{{3, 1, 0}})
}

func TestOrdersTellTheFirstTerm(t *testing.T) { // P19.1: the same polynomials, by three orders
	for order, want := range map[int][2][]list{
		// y^3 + x, by x + y^2
		api.Lex:   {{{1, 0, 0}}, {{1, 0, 3}, {-1, 0, 2}}},
		api.GrLex: {{{1, 0, 1}}, {{-1, 1, 1}, {1, 1, 0}}}, api.GrevLex: {{{1, 0, 1}}, {{-1, 1, 1}, {1, 1, 0}}},
	} {
		for _, p := range []uint64{0, 7} {
			r := ring(p, order, 2)
			wantBoth(t, "y^3 + x by x + y^2", made(t, r, list{1, 0, 3}, list{1, 1, 0}), made(t, r, list{1, 1, 0}, list{1, 0, 2}), want[0], want[1])
		}
	}
	// x^2 z + y^3, by x z + y^2: GrLex has x z first, GrevLex y^2
	for order, want := range map[int][2][]list{api.GrLex: {{{1, 1, 0, 0}}, {{-1, 1, 2, 0}, {1, 0, 3, 0}}}, api.GrevLex: {{{1, 0, 1, 0}}, {{-1, 1, 1, 1}, {1, 2, 0, 1}}}} {
		r := ring(0, order, 3)
		wantBoth(t, "x^2 z + y^3 by x z + y^2", made(t, r, list{1, 2, 0, 1}, list{1, 0, 3, 0}), made(t, r, list{1, 1, 0, 1}, list{1, 0, 2, 0}), want[0], want[1])
	}
}

func TestCoefficientsGoIntoOthers(t *testing.T) { // P19.1: over the integers they must, over a field each does
	z, f := ring(0, api.GrLex, 1), ring(7, api.GrLex, 1)
	for _, c := range []struct{ of, by, q int }{{6, 3, 2}, {6, -3, -2}, {-6, 3, -2}, {-6, -3, 2}, {7, 3, 0}, {-7, 3, 0}, {3, 6, 0}, {1, 2, 0}, {2, 1, 2}, {2, -1, -2}, {1 << 62, 1 << 61, 2}, {1 << 62, 3, 0}} {
		var q, left []list
		if c.q != 0 {
			q = []list{{c.q, 3}}
		} else {
			left = []list{{c.of, 5}}
		}
		wantBoth(t, "a number's x^5 by a number's x^2", made(t, z, list{c.of, 5}), made(t, z, list{c.by, 2}), q, left)
	}
	for of := 1; of < 7; of++ {
		for by := 1; by < 7; by++ {
			q, left := wantDivMod(t, "modulo 7", made(t, f, list{of, 5}), made(t, f, list{by, 2}))
			back, _ := q.Mul(made(t, f, list{by, 2}))
			wantSame(t, "modulo 7, back again", back, made(t, f, list{of, 5}))
			wantSame(t, "modulo 7, what is left", left, made(t, f))
		}
	}
}

func TestTermsBehindOneThatIsLeft(t *testing.T) { // P19.1: a term that is left does not end the division
	z := ring(0, api.Lex, 2)
	wantBoth(t, "3x^2 + 4x + 5 + 6y by 2", made(t, z, list{3, 2, 0}, list{4, 1, 0}, list{5, 0, 0}, list{6, 0, 1}), number(t, z, 2), []list{{2, 1, 0}, {3, 0, 1}}, []list{{3, 2, 0}, {5, 0, 0}})
	// y^2 goes into what is behind x, and what comes of that meets what was there
	wantBoth(t, "x y^2 + x + y^4 by y^2 - 3", made(t, z, list{1, 1, 2}, list{1, 1, 0}, list{1, 0, 4}), made(t, z, list{1, 0, 2}, list{-3, 0, 0}), []list{{1, 1, 0}, {1, 0, 2}, {3, 0, 0}}, []list{{4, 1, 0}, {9, 0, 0}})
	// 2x^2 + 3x + 1 by 2x + 1; and 2x^2 + 2x + 1, of which x is left over the integers
	x := ring(0, api.Lex, 1)
	two := made(t, x, list{2, 1}, list{1, 0})
	wantBoth(t, "2x^2 + 3x + 1 by 2x + 1", made(t, x, list{2, 2}, list{3, 1}, list{1, 0}), two, []list{{1, 1}, {1, 0}}, nil)
	wantBoth(t, "2x^2 + 2x + 1 by 2x + 1", made(t, x, list{2, 2}, list{2, 1}, list{1, 0}), two, []list{{1, 1}}, []list{{1, 1}, {1, 0}})
}

func TestNoughtDivided(t *testing.T) { // P19.1: 0 of the ring, of which nothing is left
	s := source(1)
	for _, r := range rings() {
		b := s.poly(t, r, 5, 3)
		if b.Len() == 0 {
			b = number(t, r, 1)
		}
		q, left := wantDivMod(t, "0", made(t, r), b)
		wantSame(t, "0, the quotient", q, made(t, r))
		wantSame(t, "0, what is left", left, made(t, r))
	}
}

func TestByOneAndByItself(t *testing.T) { // P19.1
	s := source(2)
	for _, r := range rings() {
		for range 4 {
			a := s.poly(t, r, 8, 4)
			q, _ := wantDivMod(t, "by 1", a, number(t, r, 1))
			wantSame(t, "by 1", q, a)
			q, _ = wantDivMod(t, "by -1", a, number(t, r, -1))
			wantSame(t, "by -1", q, a.Neg())
			if a.Len() > 0 {
				q, _ = wantDivMod(t, "by itself", a, a)
				wantSame(t, "by itself", q, number(t, r, 1))
				q, _ = wantDivMod(t, "by 0 less itself", a, a.Neg())
				wantSame(t, "by 0 less itself", q, number(t, r, -1))
			}
		}
	}
}

// divisors are polynomials that are not 0, of several lengths.
func divisors(t *testing.T, s *source, r api.Ring) []mpoly.Poly {
	t.Helper()
	var l []mpoly.Poly
	for _, n := range []int{1, 2, 3, 6} {
		for _, below := range []int{1, 2, 3} {
			for range 2 {
				b := s.poly(t, r, n, below)
				if b.Len() > 0 {
					l = append(l, b, monic(t, b))
				}
			}
		}
	}
	return l
}

// monic is b with 1 as its first coefficient: over the integers it goes into more than others.
func monic(t *testing.T, b mpoly.Poly) mpoly.Poly {
	t.Helper()
	l := b.Terms()
	l[0].C = bigint.Of(1)
	return polyOf(t, b.Ring(), l)
}

func TestDivisions(t *testing.T) { // P19.1: any polynomials of all rings
	s := source(3)
	whole, some := 0, 0
	for _, r := range rings() {
		for _, b := range divisors(t, &s, r) {
			q, left := wantDivMod(t, "any", s.poly(t, r, 12, 5), b)
			if q.Len() > 0 && left.Len() > 0 {
				some++
			}
			a := fine(t)(s.poly(t, r, 6, 3).Mul(b))
			_, left = wantDivMod(t, "a product", a, b)
			if left.Len() == 0 {
				whole++
			}
			wantDivMod(t, "a product, and something", fine(t)(a.Add(s.poly(t, r, 2, 4))), b)
		}
	}
	if whole < 200 || some < 200 {
		t.Errorf("too few: %d go up, of %d there is a quotient and something left", whole, some)
	}
}

func TestGreatNumbers(t *testing.T) { // P19.1: numbers of many words, of both signs
	s := source(4)
	for _, order := range termOrders() {
		r := ring(0, order, 2)
		for range 20 {
			l := s.terms(5, 2, 3)
			for i := range l {
				l[i].C = l[i].C.Mul(power(t, 3, 200+i)).Add(bigint.Of(1))
			}
			b, q := polyOf(t, r, l), s.poly(t, r, 6, 4)
			got, _ := wantDivMod(t, "great numbers", fine(t)(q.Mul(b)), b)
			wantSame(t, "great numbers", got, q)
			wantDivMod(t, "great numbers, monic", s.poly(t, r, 8, 5), monic(t, b))
		}
	}
}

func TestLongDivisions(t *testing.T) { // P19.1: quotients and divisors of some hundreds of terms
	s := source(5)
	for _, r := range []api.Ring{ring(0, api.Lex, 3), ring(0, api.GrevLex, 2), ring(greatest, api.GrLex, 3), ring(7, api.GrevLex, 8)} {
		q, b := s.poly(t, r, 400, 12), s.poly(t, r, 300, 10)
		if len(r.Vars) == 8 {
			q, b = s.poly(t, r, 200, 3), s.poly(t, r, 200, 3)
		}
		a := fine(t)(q.Mul(b))
		got, left, err := quot.DivMod(a, b)
		if err != api.OK || left.Len() > 0 {
			t.Fatalf("over %v: %d terms are left, error %d", r, left.Len(), int(err))
		}
		wantSame(t, "a long one", got, q)
	}
	r := ring(0, api.Lex, 1)
	const n = 3000
	q, left, err := quot.DivMod(made(t, r, list{1, n}, list{-1, 0}), made(t, r, list{1, 1}, list{-1, 0}))
	wantSame(t, "x^3000 - 1 by x - 1", fine(t)(q, err), polyOf(t, r, row(n, 0, 1, 0, 1)))
	wantSame(t, "x^3000 - 1 by x - 1, what is left", left, made(t, r))
}

func TestOtherRings(t *testing.T) { // P19.1: ErrRing, ahead of ErrDivZero
	r := ring(0, api.Lex, 2)
	for _, a := range []mpoly.Poly{made(t, r), made(t, r, list{1, 0, 1}), number(t, r, 1)} {
		for _, b := range others(t) {
			wantAllErr(t, "of another ring", a, b, api.ErrRing)
			wantAllErr(t, "of another ring, the other way about", b, a, api.ErrRing)
		}
	}
}

func TestByNought(t *testing.T) { // P19.1: ErrDivZero, also of 0
	s := source(6)
	for _, r := range rings() {
		for _, a := range []mpoly.Poly{made(t, r), number(t, r, 1), s.poly(t, r, 6, 3)} {
			wantAllErr(t, "by 0", a, made(t, r), api.ErrDivZero)
		}
	}
	wantAllErr(t, "a zero Poly by a zero Poly", mpoly.Poly{}, mpoly.Poly{}, api.ErrDivZero)
}

func TestNumbersOfNoVariables(t *testing.T) { // P19.1: a ring without variables has numbers alone
	z := ring(0, api.Lex, 0)
	for a := -9; a <= 9; a++ {
		for b := -4; b <= 4; b++ {
			if b == 0 {
				continue
			}
			q, left := wantDivMod(t, "numbers", number(t, z, a), number(t, z, b))
			if a%b == 0 {
				wantSame(t, "numbers that go up", q, number(t, z, a/b))
			} else {
				wantSame(t, "numbers that do not", left, number(t, z, a))
			}
		}
	}
}
