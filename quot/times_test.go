package quot_test

import (
	"testing"

	"vinculum/api"
	"vinculum/bigint"
	"vinculum/mpoly"
	"vinculum/quot"
)

// wantTimes holds Times against a number, and what is left.
func wantTimes(t *testing.T, what string, a, b mpoly.Poly, want int, left mpoly.Poly) {
	t.Helper()
	n, got, err := quot.Times(a, b)
	if n != want || err != api.OK {
		t.Errorf("%s, over %v: got %d times, error %d, want %d", what, a.Ring(), n, int(err), want)
	}
	wantSame(t, what, got, left)
}

func wantTimesErr(t *testing.T, what string, a, b mpoly.Poly, want api.Errno) {
	t.Helper()
	n, left, err := quot.Times(a, b)
	wantErr(t, what+", Times", left, err, want)
	if n != 0 {
		t.Errorf("%s: got %d times beside an error", what, n)
	}
}

// oneByOne is Times, by Div again and again.
func oneByOne(a, b mpoly.Poly) (int, mpoly.Poly) {
	for n := 0; ; n++ {
		q, err := quot.Div(a, b)
		if err != api.OK {
			return n, a
		}
		a = q
	}
}

func TestTimesOfPowers(t *testing.T) { // P19.2
	z := ring(0, api.Lex, 2)
	b, c := made(t, z, list{1, 1, 0}, list{1, 0, 1}), made(t, z, list{1, 1, 0}, list{-2, 0, 3}, list{7, 0, 0})
	for n := range 12 {
		wantTimes(t, "(x + y) to the nth, times something", fine(t)(fine(t)(b.Pow(n)).Mul(c)), b, n, c)
		wantTimes(t, "a power by its own base", fine(t)(b.Pow(n)), b, n, number(t, z, 1))
		wantTimes(t, "a power of 0 less the base", fine(t)(b.Neg().Pow(n)), b, n, number(t, z, 1-n%2*2))
	}
	wantTimes(t, "a polynomial by its square", b, fine(t)(b.Pow(2)), 0, b)
	wantTimes(t, "a fifth power by a square", fine(t)(b.Pow(5)), fine(t)(b.Pow(2)), 2, b)
	f := ring(2, api.GrLex, 1)
	wantTimes(t, "modulo 2: x^1024 + 1 by x + 1", made(t, f, list{1, 1024}, list{1, 0}), made(t, f, list{1, 1}, list{1, 0}), 1024, number(t, f, 1))
}

// isUnit tells whether b is 1 or -1, or, over a field, a number.
func isUnit(b mpoly.Poly) bool {
	return b.Deg() == 0 && (b.Ring().P != 0 || b.Terms()[0].C.Bits() == 1)
}

func TestTimesOfAny(t *testing.T) { // P19.2: of all rings, and held against Div, one by one
	s := source(11)
	often := 0
	for _, r := range rings() {
		for _, b := range divisors(t, &s, r) {
			if isUnit(b) {
				continue
			}
			a := s.poly(t, r, 4, 3)
			for a.Len() == 0 {
				a = s.poly(t, r, 4, 3)
			}
			a = fine(t)(a.Mul(fine(t)(b.Pow(s.below(4)))))
			n, left := oneByOne(a, b)
			wantTimes(t, "any", a, b, n, left)
			often += n
		}
	}
	if often < 400 {
		t.Errorf("too few: %d", often)
	}
}

func TestTimesOfOneTerm(t *testing.T) { // P19.2: by a term, from 0 to 70 times
	for _, r := range []api.Ring{ring(0, api.Lex, 2), ring(7, api.GrLex, 2), ring(greatest, api.GrevLex, 2)} {
		c := made(t, r, list{5, 3, 0}, list{1, 0, 2}, list{-4, 1, 1}) // neither x nor y goes into it
		for _, b := range []mpoly.Poly{made(t, r, list{1, 1, 0}), made(t, r, list{-1, 1, 0}), made(t, r, list{3, 0, 1}), made(t, r, list{-2, 1, 1}), made(t, r, list{1, 2, 3})} {
			a := c
			for n := range 71 {
				wantTimes(t, "a term to the nth, times something", a, b, n, c)
				a = fine(t)(a.Mul(b))
			}
		}
	}
}

func TestTimesOfTheLeastTerm(t *testing.T) { // P19.2: the term that takes fewest tells it, by exponents or by numbers
	z := ring(0, api.Lex, 2)
	a := made(t, z, list{16, 9, 4}, list{-96, 7, 30}, list{8, 100, 5})
	wantTimes(t, "by x", a, made(t, z, list{1, 1, 0}), 7, made(t, z, list{16, 2, 4}, list{-96, 0, 30}, list{8, 93, 5}))
	wantTimes(t, "by x^2", a, made(t, z, list{1, 2, 0}), 3, made(t, z, list{16, 3, 4}, list{-96, 1, 30}, list{8, 94, 5}))
	wantTimes(t, "by x y", a, made(t, z, list{1, 1, 1}), 4, made(t, z, list{16, 5, 0}, list{-96, 3, 26}, list{8, 96, 1}))
	wantTimes(t, "by 2x", a, made(t, z, list{2, 1, 0}), 3, made(t, z, list{2, 6, 4}, list{-12, 4, 30}, list{1, 97, 5}))
	wantTimes(t, "by 2x^4", a, made(t, z, list{2, 4, 0}), 1, made(t, z, list{8, 5, 4}, list{-48, 3, 30}, list{4, 96, 5}))
	wantTimes(t, "by 3x", a, made(t, z, list{3, 1, 0}), 0, a)
	wantTimes(t, "by x^8", a, made(t, z, list{1, 8, 0}), 0, a)
	wantTimes(t, "by -2", a, number(t, z, -2), 3, made(t, z, list{-2, 9, 4}, list{12, 7, 30}, list{-1, 100, 5}))
	wantTimes(t, "24x by -2", made(t, z, list{24, 1, 0}), number(t, z, -2), 3, made(t, z, list{-3, 1, 0}))
	wantTimes(t, "1944 by 6", number(t, z, 1944), number(t, z, 6), 3, number(t, z, 9))
	wantTimes(t, "5 by 2", number(t, z, 5), number(t, z, 2), 0, number(t, z, 5))
}

func TestTimesOfTheHighestPowers(t *testing.T) { // P19.2: a million times, and of many terms
	for _, p := range []uint64{0, 2, greatest} {
		r := ring(p, api.GrevLex, 2)
		wantTimes(t, "x^1048576 by x", made(t, r, list{3, mostExp, 1}), made(t, r, list{1, 1, 0}), mostExp, made(t, r, list{3, 0, 1}))
		wantTimes(t, "x^1048576 by -x", made(t, r, list{3, mostExp, 1}), made(t, r, list{-1, 1, 0}), mostExp, made(t, r, list{3, 0, 1}))
		wantTimes(t, "x^1048575 by -x", made(t, r, list{3, mostExp - 1, 1}), made(t, r, list{-1, 1, 0}), mostExp-1, made(t, r, list{-3, 0, 1}))
		wantTimes(t, "x^1048576 by x^3", made(t, r, list{1, mostExp, 0}), made(t, r, list{1, 3, 0}), 349525, made(t, r, list{1, 1, 0}))
		wantTimes(t, "x^1048576 by itself", made(t, r, list{1, mostExp, 0}), made(t, r, list{1, mostExp, 0}), 1, number(t, r, 1))
		wantTimes(t, "x^1048576 by x y", made(t, r, list{1, mostExp, 0}), made(t, r, list{1, 1, 1}), 0, made(t, r, list{1, mostExp, 0}))
		wantTimes(t, "50000 terms by x", polyOf(t, r, row(50000, 900000, 1, 0, 2)), made(t, r, list{1, 1, 0}), 900000, polyOf(t, r, row(50000, 0, 1, 0, 2)))
	}
}

func TestTimesOfGreatNumbers(t *testing.T) { // P19.2: a number may go into others many thousand times
	z := ring(0, api.Lex, 1)
	of := func(c, d bigint.Int) mpoly.Poly {
		return polyOf(t, z, []mpoly.Term{{E: list{1}, C: c}, {E: list{0}, C: d}})
	}
	two, three := power(t, 2, 100000), power(t, 3, 60000)
	wantTimes(t, "2 to the 100000th by 2", of(two, two.Mul(three)), number(t, z, 2), 100000, of(bigint.Of(1), three))
	wantTimes(t, "2 to the 100000th by -4", of(two.Mul(three), two.Neg()), number(t, z, -4), 50000, of(three, bigint.Of(-1)))
	wantTimes(t, "6 to the 60000th by 6", of(three.Mul(two), three.Mul(two)), number(t, z, 6), 60000, of(power(t, 2, 40000), power(t, 2, 40000)))
}

func TestTimesErrors(t *testing.T) { // P19.2: DivMod's first, then ErrArg
	z := ring(0, api.Lex, 2)
	x := made(t, z, list{1, 1, 0}, list{1, 0, 1})
	for _, b := range others(t) {
		wantTimesErr(t, "of another ring", x, b, api.ErrRing)
		wantTimesErr(t, "of another ring, the other way about", b, x, api.ErrRing)
		wantTimesErr(t, "0 and another ring", made(t, z), b, api.ErrRing)
		wantTimesErr(t, "another ring and 1", b, number(t, z, 1), api.ErrRing)
	}
	wantTimesErr(t, "zero Polys", mpoly.Poly{}, mpoly.Poly{}, api.ErrDivZero)
	for _, r := range rings() {
		s := source(12)
		none, a := made(t, r), s.poly(t, r, 5, 3)
		for a.Len() == 0 {
			a = s.poly(t, r, 5, 3)
		}
		wantTimesErr(t, "by 0", a, none, api.ErrDivZero)
		wantTimesErr(t, "0 by 0", none, none, api.ErrDivZero)
		wantTimesErr(t, "0", none, a, api.ErrArg)
		wantTimesErr(t, "0 by 1", none, number(t, r, 1), api.ErrArg)
		wantTimesErr(t, "by 1", a, number(t, r, 1), api.ErrArg)
		wantTimesErr(t, "by -1", a, number(t, r, -1), api.ErrArg)
		if r.P == 0 || r.P > 5 {
			_, _, err := quot.Times(a, number(t, r, 5))
			if (err == api.OK) != (r.P == 0) || err != api.OK && err != api.ErrArg {
				t.Errorf("over %v: by 5: error %d", r, int(err))
			}
		}
	}
}

func TestTimesAtLimits(t *testing.T) { // P19.2: ErrLimit of the first division, of a later one, and of the last one, which does not go up
	for _, p := range []uint64{0, 7} {
		r := ring(p, api.Lex, 2)
		b := made(t, r, list{1, 1, 0}, list{-1, 0, 0})
		by := func(c mpoly.Poly) mpoly.Poly { return fine(t)(b.Mul(c)) }
		high, higher := made(t, r, list{1, mostTerms, 0}), made(t, r, list{1, mostTerms + 1, 0})
		wantTimesErr(t, "the first one", fine(t)(higher.Sub(number(t, r, 1))), b, api.ErrLimit)
		wantTimesErr(t, "the second one", by(fine(t)(higher.Sub(number(t, r, 1)))), b, api.ErrLimit)
		wantTimesErr(t, "the third one", by(by(fine(t)(higher.Sub(number(t, r, 1))))), b, api.ErrLimit)
		wantTimesErr(t, "the first one, which does not go up", higher, b, api.ErrLimit)
		wantTimesErr(t, "the second one, which does not go up", by(higher), b, api.ErrLimit)
		wantTimes(t, "as many terms as may be, that do not go up", high, b, 0, high)
		wantTimes(t, "as many terms as may be, the second time", by(high), b, 1, high)
		// What is taken off of x^2 has y, to twice as high a power.
		square := made(t, r, list{1, 2, 0})
		c, d := made(t, r, list{1, 1, 0}, list{1, 0, mostExp / 2}), made(t, r, list{1, 1, 0}, list{1, 0, mostExp/2 + 1})
		wantTimes(t, "exponents as high as may be", fine(t)(c.Mul(square)), c, 1, square)
		wantTimesErr(t, "exponents that are too high", fine(t)(d.Mul(square)), d, api.ErrLimit)
	}
}
