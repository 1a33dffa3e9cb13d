package brown_test

import (
	"testing"

	"vinculum/api"
	"vinculum/brown"
	"vinculum/mpoly"
)

func TestNormOverTheIntegers(t *testing.T) { // P21.1: the content is kept
	s := source(21)
	for _, order := range termOrders() {
		for vars := range 4 {
			r := ring(0, order, vars)
			for range 20 {
				a := s.poly(t, r, 5, 4)
				want := a
				if a.Len() > 0 && a.Terms()[0].C.Sign() < 0 {
					want = a.Neg()
				}
				wantSame(t, "Norm", brown.Norm(a), want)
				wantSame(t, "Norm of 0 less it", brown.Norm(a.Neg()), want)
			}
			wantSame(t, "Norm of 0", brown.Norm(made(t, r)), made(t, r))
		}
	}
	r := ring(0, api.GrLex, 2)
	wantSame(t, "Norm of -6x + 4", brown.Norm(made(t, r, list{-6, 1, 0}, list{4, 0, 0})), made(t, r, list{6, 1, 0}, list{-4, 0, 0}))
	wantSame(t, "Norm of 6x - 4", brown.Norm(made(t, r, list{6, 1, 0}, list{-4, 0, 0})), made(t, r, list{6, 1, 0}, list{-4, 0, 0}))
	// by GrLex y^2 stands first, though x has a greater number
	wantSame(t, "Norm of 6x - y^2", brown.Norm(made(t, r, list{6, 1, 0}, list{-1, 0, 2})), made(t, r, list{-6, 1, 0}, list{1, 0, 2}))
	wantSame(t, "Norm of a zero Poly", brown.Norm(mpoly.Poly{}), mpoly.Poly{})
}

func TestNormOverFields(t *testing.T) { // P21.1: the first coefficient is 1
	s := source(22)
	for _, r := range rings(3) {
		if r.P == 0 {
			continue
		}
		for range 10 {
			a := s.poly(t, r, 5, 4)
			got := brown.Norm(a)
			wantSame(t, "Norm", got, asItIsToBe(t, a))
			if a.Len() == 0 {
				continue
			}
			if n, is := got.Terms()[0].C.Small(); !is || n != 1 {
				t.Errorf("over %v: Norm of%s is%s", r, short(a), short(got))
			}
			wantSame(t, "Norm, times the first coefficient", fine(t)(got.Scale(mpoly.Term{E: make(list, len(r.Vars)), C: a.Terms()[0].C})), a)
		}
		wantSame(t, "Norm of 0", brown.Norm(made(t, r)), made(t, r))
	}
}

// wantTests holds what Tests answers, whichever of a and b comes first.
func wantTests(t *testing.T, what string, g, a, b mpoly.Poly, want bool, wantErr api.Errno) {
	t.Helper()
	for _, l := range [][2]mpoly.Poly{{a, b}, {b, a}} {
		if got, err := brown.Tests(g, l[0], l[1]); got != want || err != wantErr {
			t.Errorf("%s, over %v: got %t, error %d, want %t, error %d", what, a.Ring(), got, int(err), want, int(wantErr))
		}
	}
}

func TestTests(t *testing.T) { // P21.1
	z := ring(0, api.Lex, 2)
	sum, square, other := made(t, z, list{1, 1, 0}, list{1, 0, 1}), made(t, z, list{1, 2, 0}, list{2, 1, 1}, list{1, 0, 2}), made(t, z, list{1, 2, 0}, list{-1, 0, 2})
	wantTests(t, "x + y", sum, square, other, true, api.OK)
	wantTests(t, "-x - y", sum.Neg(), square, other, true, api.OK)
	wantTests(t, "1, which is no greatest one", number(t, z, 1), square, other, true, api.OK)
	wantTests(t, "x - y", made(t, z, list{1, 1, 0}, list{-1, 0, 1}), square, other, false, api.OK)
	wantTests(t, "the square", square, square, other, false, api.OK)
	wantTests(t, "2x + 2y", made(t, z, list{2, 1, 0}, list{2, 0, 1}), square, other, false, api.OK)
	wantTests(t, "x, which divides none", made(t, z, list{1, 1, 0}), square, other, false, api.OK)
	f := ring(7, api.Lex, 2)
	wantTests(t, "2x + 2y over a field", made(t, f, list{2, 1, 0}, list{2, 0, 1}), made(t, f, list{1, 2, 0}, list{-1, 0, 2}), made(t, f, list{3, 1, 0}, list{3, 0, 1}), true, api.OK)
}

func TestTestsOfNought(t *testing.T) { // P21.1: 0 divides 0 alone, and each one divides 0
	s := source(23)
	for _, r := range rings(2) {
		none, a := made(t, r), s.other(t, r, 3, 3)
		wantTests(t, "0 of 0 and 0", none, none, none, true, api.OK)
		wantTests(t, "0 of one and 0", none, a, none, false, api.OK)
		wantTests(t, "0 of two", none, a, a, false, api.OK)
		wantTests(t, "one of 0 and 0", a, none, none, true, api.OK)
		wantTests(t, "one of it and 0", a, a, none, true, api.OK)
	}
	wantTests(t, "zero Polys", mpoly.Poly{}, mpoly.Poly{}, mpoly.Poly{}, true, api.OK)
}

func TestTestsOfMultiples(t *testing.T) { // P21.1: those that divide, and those that do not
	s := source(24)
	for _, r := range rings(3) {
		if len(r.Vars) == 0 {
			continue
		}
		for range 6 {
			g, u, v := s.other(t, r, 3, 3), s.poly(t, r, 3, 3), s.poly(t, r, 3, 3)
			a, b := product(t, g, u), product(t, g, v)
			wantTests(t, "of multiples", g, a, b, true, api.OK)
			if g.Deg() > 0 {
				wantTests(t, "of a multiple, and that and 1", g, a, fine(t)(b.Add(number(t, r, 1))), false, api.OK)
			}
		}
	}
}

func TestTestsOfOtherRings(t *testing.T) { // P21.1: ErrRing, whichever it is, also of 0
	r := ring(0, api.Lex, 2)
	for _, a := range []mpoly.Poly{made(t, r), number(t, r, 1), made(t, r, list{1, 1, 0})} {
		for _, b := range others(t) {
			wantTests(t, "another ring of a", a, a, b, false, api.ErrRing)
			wantTests(t, "another ring of g", b, a, a, false, api.ErrRing)
			wantTests(t, "another ring of two", b, a, b, false, api.ErrRing)
			wantTests(t, "another ring of both", a, b, b, false, api.ErrRing)
		}
	}
}

func TestTestsAtTheLimit(t *testing.T) { // P21.1: also where the other one is not divided
	for _, p := range []uint64{0, 7} {
		r := ring(p, api.Lex, 1)
		g := made(t, r, list{1, 1}, list{-1, 0})
		high, low := made(t, r, list{1, mostTerms + 1}, list{-1, 0}), made(t, r, list{1, mostTerms}, list{-1, 0})
		wantTests(t, "x^100000 - 1", g, low, low, true, api.OK)
		wantTests(t, "x^100001 - 1", g, high, high, false, api.ErrLimit)
		wantTests(t, "x^100001 - 1, and one that is divided", g, high, g, false, api.ErrLimit)
		wantTests(t, "x^100001 - 1, and one that is not", g, high, made(t, r, list{1, 1}), false, api.ErrLimit)
		wantTests(t, "x^100001 - 1, and 0", g, high, made(t, r), false, api.ErrLimit)
	}
}
