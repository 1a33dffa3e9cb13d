package calc_test

import (
	"slices"
	"testing"

	"vinculum/api"
	"vinculum/bigint"
	"vinculum/calc"
	"vinculum/mpoly"
)

// with is a polynomial with b in the place of the variable v, term by term.
func (a plain) with(v int, b plain) plain {
	sum := plain{}
	for e, c := range a {
		n := e[v]
		e[v] = 0
		product := plain{e: c}
		for range n {
			product = product.times(b)
		}
		sum.take(product)
	}
	return sum
}

func TestSubstExamples(t *testing.T) { // P15.2
	cases := []struct {
		p           uint64
		v           int
		a, b, wants []list
	}{
		{0, 0, []list{{1, 2, 0}}, []list{{1, 0, 1}, {1, 0, 0}}, []list{{1, 0, 2}, {2, 0, 1}, {1, 0, 0}}}, {0, 0, []list{{1, 0, 1}, {1, 0, 0}}, []list{{1, 2, 0}}, []list{{1, 0, 1}, {1, 0, 0}}}, {0, 1, []list{{1, 0, 1}, {1, 0, 0}}, []list{{1, 2, 0}}, []list{{1, 2, 0}, {1, 0, 0}}},
		{0, 0, []list{{3, 2, 1}, {5, 1, 0}, {7, 0, 2}}, nil, []list{{7, 0, 2}}}, {0, 0, []list{{3, 2, 1}, {5, 1, 0}, {7, 0, 2}}, []list{{1, 0, 0}}, []list{{3, 0, 1}, {5, 0, 0}, {7, 0, 2}}}, {0, 0, []list{{3, 2, 1}, {5, 1, 0}}, []list{{-2, 0, 0}}, []list{{12, 0, 1}, {-10, 0, 0}}}, {0, 0, nil, []list{{1, 1, 0}}, nil}, {0, 0, []list{{1, 1, 0}, {-1, 0, 1}}, []list{{1, 0, 1}}, nil},
		// The variable itself may be in b: it is put in but once.
		{0, 0, []list{{1, 2, 0}}, []list{{1, 1, 0}, {1, 0, 0}}, []list{{1, 2, 0}, {2, 1, 0}, {1, 0, 0}}}, {0, 0, []list{{1, 1, 1}}, []list{{1, 1, 0}}, []list{{1, 1, 1}}}, {0, 0, []list{{1, 1, 1}}, []list{{1, 3, 0}}, []list{{1, 3, 1}}},
		{2, 0, []list{{1, 2, 0}}, []list{{1, 0, 1}, {1, 0, 0}}, []list{{1, 0, 2}, {1, 0, 0}}}, {7, 1, []list{{1, 0, 7}}, []list{{1, 1, 0}, {3, 0, 0}}, []list{{1, 7, 0}, {3, 0, 0}}},
	}
	for i, c := range cases {
		for _, order := range orders() {
			r := ring(c.p, order, 2)
			got, err := calc.Subst(made(t, r, c.a...), c.v, made(t, r, c.b...))
			if !got.Is(made(t, r, c.wants...)) || err != api.OK {
				t.Errorf("%d: got %d terms, error %d, want %d, or others", i, got.Len(), int(err), len(c.wants))
			}
		}
	}
}

func TestSubst(t *testing.T) { // P15.2
	s := source(11)
	for _, r := range rings() {
		for v := range r.Vars {
			for _, n := range []int{0, 1, 4, 9} {
				for m := range 4 {
					a, b := s.poly(t, r, n, 5), s.poly(t, r, m, 4)
					got, err := calc.Subst(a, v, b)
					wantPoly(t, "Subst", r, got, err, plainOf(a.Terms()).with(v, plainOf(b.Terms())))
				}
			}
		}
	}
}

func TestSubstChecksAheadOfAllElse(t *testing.T) { // P15.2: ErrArg, ErrRing, ErrLimit, one behind the other
	r := ring(0, api.Lex, 2)
	high := made(t, r, list{1, mostSubst + 1, mostExp})
	for _, a := range []mpoly.Poly{made(t, r), made(t, r, list{1, 1, 1}), high} {
		for _, b := range append(others(t), a, high) {
			for _, v := range wrongPlaces(2) {
				got, err := calc.Subst(a, v, b)
				wantErr(t, "Subst of no variable", got, err, api.ErrArg)
			}
		}
		for _, b := range others(t) {
			for v := range 2 {
				got, err := calc.Subst(a, v, b)
				wantErr(t, "Subst of another ring", got, err, api.ErrRing)
			}
		}
	}
	for _, b := range others(t) {
		if len(b.Ring().Vars) > 0 {
			got, err := calc.Subst(b, 0, high)
			wantErr(t, "Subst in another ring", got, err, api.ErrRing)
		}
	}
	got, err := calc.Subst(mpoly.Poly{}, 0, mpoly.Poly{})
	wantErr(t, "Subst in the zero Poly", got, err, api.ErrArg)
}

func TestSubstInHighPowers(t *testing.T) { // P15.2: up to the 1000th of that variable
	for _, p := range []uint64{0, 7} {
		r := ring(p, api.GrLex, 2)
		one, y := made(t, r, list{1, 0, 0}), made(t, r, list{1, 0, 1}, list{-1, 0, 0})
		a := made(t, r, list{1, mostSubst, 0}, list{2, 3, mostExp})
		got, err := calc.Subst(a, 0, one)
		wantPoly(t, "Subst in the 1000th power", r, got, err, plainOf(termsOf(list{1, 0, 0}, list{2, 0, mostExp})))
		got, err = calc.Subst(a, 1, one)
		wantErr(t, "Subst in a power that is too high", got, err, api.ErrLimit)
		got, err = calc.Subst(made(t, r, list{1, mostSubst + 1, 0}), 0, one)
		wantErr(t, "Subst in the 1001st power", got, err, api.ErrLimit)
		got, err = calc.Subst(made(t, r, list{1, mostSubst + 1, 0}, list{1, 0, 3}), 0, made(t, r))
		wantErr(t, "Subst of 0 in the 1001st power", got, err, api.ErrLimit)
		got, err = calc.Subst(made(t, r, list{1, mostSubst, 0}), 0, y)
		want, _ := y.Pow(mostSubst)
		if wantSame(t, "Subst of y - 1", got, want); err != api.OK {
			t.Errorf("error %d", int(err))
		}
	}
}

func TestSubstHasTheErrorsOfItsSteps(t *testing.T) { // P15.2: that of a Mul, or of an Add
	r := ring(0, api.Lex, 3)
	x := func(n int, l []mpoly.Term) []mpoly.Term { // times x to the nth
		l = slices.Clone(l)
		for i := range l {
			l[i].E = slices.Clone(l[i].E)
			l[i].E[0] += n
		}
		return l
	}
	z := func(n, c int) []mpoly.Term { return row(n, 0, c, 2, 3) }
	cases := map[string]struct {
		a, b []mpoly.Term
		want api.Errno
	}{
		"exponents as high as may be": {termsOf(list{1, 2, mostExp - 6, 0}), termsOf(list{1, 0, 3, 0}), api.OK}, "one that is too high": {termsOf(list{1, 2, mostExp - 5, 0}), termsOf(list{1, 0, 3, 0}), api.ErrLimit}, "one too high at the first step": {termsOf(list{1, 2, mostExp, 0}), termsOf(list{1, 0, 1, 0}), api.ErrLimit}, "one of b itself": {termsOf(list{1, 2, 0, 0}), termsOf(list{1, mostExp / 2, 0, 0}), api.OK}, "one of b itself, too high": {termsOf(list{1, 2, 0, 0}), termsOf(list{1, mostExp/2 + 1, 0, 0}), api.ErrLimit},
		"b to the 0th, however high": {termsOf(list{1, 0, mostExp, 0}), termsOf(list{1, mostExp, mostExp, mostExp}), api.OK}, "0 in the place of what would be too high": {termsOf(list{1, 1000, mostExp, 0}), nil, api.OK},
		"as many terms as may be, by Mul": {x(1, z(50000, 1)), termsOf(list{1, 0, 1, 0}, list{1, 0, 2, 0}), api.OK}, "too many, by Mul": {x(1, z(50001, 1)), termsOf(list{1, 0, 1, 0}, list{1, 0, 2, 0}), api.ErrLimit}, "as many, by Add": {append(x(1, z(49999, 1)), termsOf(list{1, 0, 0, 0}, list{1, 0, 3, 0})...), termsOf(list{1, 0, 1, 0}, list{1, 0, 2, 0}), api.OK}, "too many, by Add": {append(x(1, z(50000, 1)), termsOf(list{1, 0, 0, 0})...), termsOf(list{1, 0, 1, 0}, list{1, 0, 2, 0}), api.ErrLimit},
		"too many, by an Add with a step behind it": {append(x(2, z(50000, 1)), termsOf(list{1, 1, 0, 0})...), termsOf(list{1, 0, 1, 0}, list{1, 0, 2, 0}), api.ErrLimit},
		"as many, where one goes":                   {append(x(1, z(50000, 1)), termsOf(list{1, 0, 0, 0}, list{-1, 0, 1, 0})...), termsOf(list{1, 0, 1, 0}, list{1, 0, 2, 0}), api.OK},
		"too many for a while":                      {append(x(1, z(33334, 1)), z(33334, -1)...), termsOf(list{1, 0, 0, 0}, list{1, 0, 1, 0}, list{1, 0, 2, 0}), api.ErrLimit},
		"as many pairs as may be":                   {x(1, z(2000, 1)), z(2000, 1), api.OK}, "too many pairs": {x(1, z(2001, 1)), z(2000, 1), api.ErrLimit}, "too many pairs, at the second step": {x(2, z(1500, 1)), z(1500, 1), api.ErrLimit}, "too many pairs, of what is not multiplied": {z(2001, 1), z(2000, 1), api.OK},
		// Taken one by one, y^1048577 would be too high; step by step it goes ahead of that.
		"too high, if it did not go": {termsOf(list{1, 2, mostExp - 1, 0}, list{-1, 1, mostExp, 0}, list{3, 0, 0, 1}), termsOf(list{1, 0, 1, 0}), api.OK}, "too high, as it does not go": {termsOf(list{1, 2, mostExp - 1, 0}, list{1, 1, mostExp, 0}, list{3, 0, 0, 1}), termsOf(list{1, 0, 1, 0}), api.ErrLimit},
	}
	for what, c := range cases {
		got, err := calc.Subst(polyOf(t, r, c.a), 0, polyOf(t, r, c.b))
		if c.want != api.OK {
			wantErr(t, "Subst, "+what, got, err, c.want)
			continue
		}
		if len(c.b) < 1000 {
			wantPoly(t, "Subst, "+what, r, got, err, plainOf(c.a).with(0, plainOf(c.b)))
		} else if err != api.OK || got.Len() == 0 {
			t.Errorf("Subst, %s: got %d terms, error %d", what, got.Len(), int(err))
		}
	}
}

func TestSubstOfVariables(t *testing.T) { // P15.2: by itself, and by another one and back
	s := source(12)
	for _, r := range rings() {
		for v := range r.Vars {
			a := s.poly(t, r, 12, 6)
			itself := polyOf(t, r, row(1, 1, 1, v, len(r.Vars)))
			got, err := calc.Subst(a, v, itself)
			wantPoly(t, "Subst by itself", r, got, err, plainOf(a.Terms()))
			number := polyOf(t, r, []mpoly.Term{{E: make(list, len(r.Vars)), C: bigint.Of(3)}})
			up, down := fine(t)(itself.Add(number)), fine(t)(itself.Sub(number))
			there := fine(t)(calc.Subst(a, v, up))
			wantSame(t, "Subst of x + 3, and x - 3", fine(t)(calc.Subst(there, v, down)), a)
		}
	}
}
