package quot_test

import (
	"slices"
	"testing"

	"vinculum/api"
	"vinculum/bigint"
	"vinculum/mpoly"
	"vinculum/quot"
)

// wantLens holds how many terms a division answers, and what Div and Divides make of it.
func wantLens(t *testing.T, what string, a, b mpoly.Poly, q, left int) {
	t.Helper()
	gotQ, gotLeft, err := quot.DivMod(a, b)
	if gotQ.Len() != q || gotLeft.Len() != left || err != api.OK {
		t.Errorf("%s, over %v: got %d terms, %d left, error %d, want %d and %d", what, a.Ring(), gotQ.Len(), gotLeft.Len(), int(err), q, left)
		return
	}
	whole, err := quot.Div(a, b)
	divides, e := quot.Divides(b, a)
	if left > 0 {
		wantErr(t, what+", Div", whole, err, api.ErrInexact)
	} else {
		wantSame(t, what+", Div", fine(t)(whole, err), gotQ)
	}
	if divides != (left == 0) || e != api.OK {
		t.Errorf("%s, over %v: Divides: got %t, error %d", what, a.Ring(), divides, int(e))
	}
}

func limitRings() []api.Ring {
	return []api.Ring{ring(0, api.Lex, 2), ring(7, api.Lex, 2), ring(greatest, api.Lex, 2)}
}

func TestTooManyTermsOfTheQuotient(t *testing.T) { // P19.1
	for _, r := range []api.Ring{ring(0, api.Lex, 2), ring(7, api.GrLex, 2), ring(0, api.GrevLex, 2)} {
		b := made(t, r, list{1, 1, 0}, list{-1, 0, 0})
		wantLens(t, "x^100000 - 1 by x - 1", made(t, r, list{1, mostTerms, 0}, list{-1, 0, 0}), b, mostTerms, 0)
		wantLens(t, "x^100000 by x - 1", made(t, r, list{1, mostTerms, 0}), b, mostTerms, 1)
		wantAllErr(t, "x^100001 - 1 by x - 1", made(t, r, list{1, mostTerms + 1, 0}, list{-1, 0, 0}), b, api.ErrLimit)
		wantAllErr(t, "x^100001 by x - 1", made(t, r, list{1, mostTerms + 1, 0}), b, api.ErrLimit)
		wantAllErr(t, "x^1048576 by x - 1", made(t, r, list{1, mostExp, 0}), b, api.ErrLimit)
	}
}

func TestTooManyTermsThatAreLeft(t *testing.T) { // P19.1: a has as many as may be, and what is taken off makes others
	for _, r := range limitRings() {
		a := polyOf(t, r, append(row(mostTerms-1, 1, 1, 1, 2), mpoly.Term{E: list{1, 0}, C: bigint.Of(1)}))
		wantLens(t, "one more", a, made(t, r, list{1, 1, 0}, list{1, 0, 200000}), 1, mostTerms)
		wantLens(t, "one more, and one that goes", a, made(t, r, list{1, 1, 0}, list{1, 0, 200000}, list{1, 0, 5}), 1, mostTerms-1)
		wantLens(t, "two more, and one that goes", a, made(t, r, list{1, 1, 0}, list{1, 0, 200000}, list{1, 0, 200001}, list{1, 0, 5}), 1, mostTerms)
		wantAllErr(t, "two more", a, made(t, r, list{1, 1, 0}, list{1, 0, 200000}, list{1, 0, 200001}), api.ErrLimit)
		wantAllErr(t, "three more, and one that goes", a, made(t, r, list{1, 1, 0}, list{1, 0, 200000}, list{1, 0, 200001}, list{1, 0, 200002}, list{1, 0, 5}), api.ErrLimit)
	}
}

func TestAsManyTermsOfBothAsMayBe(t *testing.T) { // P19.1: each has its own limit
	for _, r := range limitRings() {
		a := polyOf(t, r, append(row(mostTerms-1, 1, 1, 1, 2), mpoly.Term{E: list{mostTerms, 0}, C: bigint.Of(1)}))
		wantLens(t, "both", a, made(t, r, list{1, 1, 0}, list{-1, 0, 0}), mostTerms, mostTerms)
	}
}

func TestTooHighExponents(t *testing.T) { // P19.1: of what is taken off, whichever variable has it
	half := mostExp / 2
	for _, p := range []uint64{0, 2, greatest} {
		lex := ring(p, api.Lex, 2)
		square := made(t, lex, list{1, 2, 0})
		wantBoth(t, "x^2 by x + y^524288", square, made(t, lex, list{1, 1, 0}, list{1, 0, half}), []list{{1, 1, 0}, {-1, 0, half}}, []list{{1, 0, mostExp}})
		wantAllErr(t, "x^2 by x + y^524289", square, made(t, lex, list{1, 1, 0}, list{1, 0, half + 1}), api.ErrLimit)
		wantAllErr(t, "x^2 by x + y^1048576", square, made(t, lex, list{1, 1, 0}, list{1, 0, mostExp}), api.ErrLimit)
		wantAllErr(t, "x^2 by x + y + y^524289", square, made(t, lex, list{1, 1, 0}, list{1, 0, 1}, list{1, 0, half + 1}), api.ErrLimit)
		wantBoth(t, "x by x + y^1048576", made(t, lex, list{1, 1, 0}), made(t, lex, list{1, 1, 0}, list{1, 0, mostExp}), []list{{1, 0, 0}}, []list{{-1, 0, mostExp}})
		wantBoth(t, "y^1048576 by x + y^1048576", made(t, lex, list{1, 0, mostExp}), made(t, lex, list{1, 1, 0}, list{1, 0, mostExp}), nil, []list{{1, 0, mostExp}})
		wantBoth(t, "x^1048576 by x^1048575", made(t, lex, list{1, mostExp, 0}), made(t, lex, list{1, mostExp - 1, 0}), []list{{1, 1, 0}}, nil)
		three := ring(p, api.Lex, 3)
		wantAllErr(t, "x^2 by x + z^524289", made(t, three, list{1, 2, 0, 0}), made(t, three, list{1, 1, 0, 0}, list{1, 0, 0, half + 1}), api.ErrLimit)
		wantAllErr(t, "x^2 z by x + z^524288", made(t, three, list{1, 2, 0, 1}), made(t, three, list{1, 1, 0, 0}, list{1, 0, 0, half}), api.ErrLimit)
		wantAllErr(t, "x^2 by x + y + z^524289 + 1", made(t, three, list{1, 2, 0, 0}), made(t, three, list{1, 1, 0, 0}, list{1, 0, 1, 0}, list{1, 0, 0, half + 1}, list{1, 0, 0, 0}), api.ErrLimit)
		wantLens(t, "x^2 by x + z^524288", made(t, three, list{1, 2, 0, 0}), made(t, three, list{1, 1, 0, 0}, list{1, 0, 0, half}), 2, 1)
		for _, order := range termOrders() {
			r := ring(p, order, 2)
			a, b := made(t, r, list{1, 1000000, half}), made(t, r, list{1, 500000, 0}, list{1, 0, 262144})
			wantLens(t, "as high as may be, by any order", a, b, 2, 1)
			wantAllErr(t, "too high, by any order", made(t, r, list{1, 1000000, half + 1}), b, api.ErrLimit)
		}
	}
}

// ramp is the product of n powers of x by m of them, and k powers of y: all steps together are n and k.
func ramp(t *testing.T, r api.Ring, n, m, k int) mpoly.Poly {
	t.Helper()
	l := row(n+m-1, 0, 1, 0, 2)
	for i := range l {
		l[i].C = bigint.Of(min(i+1, n, m, n+m-1-i))
	}
	return polyOf(t, r, append(l, row(k, 1, 1, 1, 2)...))
}

func TestTooMuchWork(t *testing.T) { // P19.1: each step costs as many terms as b has, and what has come to 0 is no step
	z, f := ring(0, api.GrLex, 2), ring(greatest, api.Lex, 2)
	cases := []struct {
		r          api.Ring
		m, q, left int
	}{{z, 41, 97560, 0}, {f, 41, 50000, 47560}, {z, 41, 1, 97559}, {z, 2000, 2000, 0}, {z, 2000, 1500, 500}, {f, 2001, 1999, 0}, {z, 50000, 20, 60}}
	for _, c := range cases {
		b := polyOf(t, c.r, row(c.m, 0, 1, 0, 2))
		q, left, err := quot.DivMod(ramp(t, c.r, c.q, c.m, c.left), b)
		wantSame(t, "as much work as may be", fine(t)(q, err), polyOf(t, c.r, row(c.q, 0, 1, 0, 2)))
		wantSame(t, "as much work as may be, what is left", left, polyOf(t, c.r, row(c.left, 1, 1, 1, 2)))
		q, _, err = quot.DivMod(ramp(t, c.r, c.q+1, c.m, c.left), b)
		wantErr(t, "a term of q too much", q, err, api.ErrLimit)
		_, left, err = quot.DivMod(ramp(t, c.r, c.q, c.m, c.left+1), b)
		wantErr(t, "a term of r too much", left, err, api.ErrLimit)
	}
	for _, r := range []api.Ring{z, f} {
		b := polyOf(t, r, row(41, mostTerms, 1, 0, 2))
		wantLens(t, "steps that take off one term", polyOf(t, r, row(97560, 0, 1, 1, 2)), b, 0, 97560)
		wantAllErr(t, "one of these too many", polyOf(t, r, row(97561, 0, 1, 1, 2)), b, api.ErrLimit)
		wantLens(t, "the most steps by 40 terms", polyOf(t, r, row(mostTerms, 0, 1, 1, 2)), polyOf(t, r, row(40, mostTerms, 1, 0, 2)), 0, mostTerms)
	}
}

func TestNumbersThatGrow(t *testing.T) { // P19.1, R1: a limit is told ahead of all memory being gone
	r := ring(0, api.Lex, 2)
	for _, c := range []bigint.Int{bigint.Of(2), bigint.Of(-3), bigint.Of(1 << 60), power(t, 7, 1000)} {
		for _, first := range []int{1, -1} {
			b := polyOf(t, r, []mpoly.Term{{E: list{1, 0}, C: bigint.Of(first)}, {E: list{0, 1}, C: c}})
			wantAllErr(t, "x^1048576 by x and a number's y", made(t, r, list{1, mostExp, 0}), b, api.ErrLimit)
		}
	}
}

// falling is n terms of x, from a power down, each number some times the one ahead.
func falling(t *testing.T, r api.Ring, n, high int, c, times bigint.Int) mpoly.Poly {
	t.Helper()
	var l []mpoly.Term
	for i := range n {
		l = append(l, mpoly.Term{E: list{high - i}, C: c})
		c = c.Mul(times)
	}
	return polyOf(t, r, l)
}

func TestNumbersThatGrowWithinLimits(t *testing.T) { // P19.1: where no limit is to come, there is none
	r := ring(0, api.Lex, 1)
	great, last := power(t, 2, 5000), bigint.Of(1)
	for range 200 {
		last = last.Mul(great)
	}
	for _, first := range []int{1, -1} {
		b := polyOf(t, r, []mpoly.Term{{E: list{1}, C: bigint.Of(first)}, {E: list{0}, C: great.Mul(bigint.Of(-first))}})
		q, left, err := quot.DivMod(made(t, r, list{1, 200}), b)
		wantSame(t, "x^200 by x less a great number", fine(t)(q, err), falling(t, r, 200, 199, bigint.Of(first), great))
		wantSame(t, "x^200 by x less a great number, what is left", left, falling(t, r, 1, 0, last, bigint.Of(1)))
	}
}

func TestGreatNumbersAreNoLimit(t *testing.T) { // P19.1: a number that does not go up ends it, though modulo a prime it would
	r := ring(0, api.Lex, 1)
	great := power(t, 2, 130000).Add(bigint.Of(1))
	q := falling(t, r, 600, 1000000, great, bigint.Of(1))
	for _, first := range []int{2, -2, 3} {
		b := made(t, r, list{first, 1}, list{-5, 0})
		a := fine(t)(fine(t)(q.Mul(b)).Add(made(t, r, list{1, 500000})))
		got, left, err := quot.DivMod(a, b)
		wantSame(t, "great numbers", fine(t)(got, err), q)
		wantSame(t, "great numbers, what is left", left, made(t, r, list{1, 500000}))
	}
	b := made(t, r, list{-1, 1}, list{5, 0})
	wantSame(t, "great numbers that go up", fine(t)(quot.Div(fine(t)(q.Mul(b)), b)), q)
}

func TestOtherOrdersOfVariablesAtLimits(t *testing.T) { // P19.1: eight variables, each of them the one that is too high
	for _, order := range termOrders() {
		r := ring(0, order, mostVars)
		for v := 1; v < mostVars; v++ {
			e, f := make(list, mostVars), make(list, mostVars)
			e[0], f[v] = mostExp, mostExp/2
			a, high := slices.Clone(e), slices.Clone(e)
			a[v], high[v] = mostExp/2, mostExp/2+1
			one := func(e list) []mpoly.Term { return []mpoly.Term{{E: e, C: bigint.Of(1)}} }
			b := polyOf(t, r, append(one(e), one(f)...))
			wantLens(t, "as high as may be", polyOf(t, r, one(a)), b, 1, 1)
			wantAllErr(t, "too high", polyOf(t, r, one(high)), b, api.ErrLimit)
		}
	}
}
