package mpoly_test

import (
	"math"
	"slices"
	"testing"

	"vinculum/api"
	"vinculum/bigint"
	"vinculum/mpoly"
)

// others are polynomials whose ring is not that of Z, x and y, Lex, and is near to it.
func others(t *testing.T) []mpoly.Poly {
	t.Helper()
	yx := api.Ring{Vars: []string{"y", "x"}, Order: api.Lex}
	return []mpoly.Poly{{}, made(t, ring(0, api.GrLex, 2), list{1, 1, 0}), made(t, ring(0, api.GrevLex, 2)), made(t, ring(7, api.Lex, 2), list{1, 1, 0}), made(t, ring(2, api.Lex, 2)), made(t, ring(0, api.Lex, 1), list{1, 1}), made(t, ring(0, api.Lex, 3), list{1, 1, 0, 0}), made(t, ring(0, api.Lex, 0), list{1}), made(t, yx, list{1, 1, 0})}
}

func TestOtherRings(t *testing.T) { // P14.3, P14.4: ErrRing, of 0 too
	r := ring(0, api.Lex, 2)
	for _, a := range []mpoly.Poly{made(t, r), made(t, r, list{1, 1, 0}, list{1, 0, 1}), polyOf(t, r, row(mostTerms, 0, 1, 2)), made(t, r, list{1, mostExp, mostExp})} {
		for _, b := range others(t) {
			for _, pair := range [][2]mpoly.Poly{{a, b}, {b, a}} {
				sum, err := pair[0].Add(pair[1])
				wantErr(t, "Add of other rings", sum, err, api.ErrRing)
				difference, err := pair[0].Sub(pair[1])
				wantErr(t, "Sub of other rings", difference, err, api.ErrRing)
				product, err := pair[0].Mul(pair[1])
				wantErr(t, "Mul of other rings", product, err, api.ErrRing)
			}
		}
	}
}

func TestRingsGoByWhatTheyAre(t *testing.T) { // P14.3, P14.4: not by where their names stand
	a := made(t, api.Ring{Vars: []string{"x", "y"}, Order: api.Lex}, list{1, 1, 0})
	b := made(t, api.Ring{Vars: append([]string{"x"}, "y"), Order: api.Lex}, list{1, 0, 1})
	if sum, err := a.Add(b); sum.Len() != 2 || err != api.OK {
		t.Errorf("Add: got %d terms, error %d", sum.Len(), int(err))
	}
	if product, err := a.Mul(b); product.Len() != 1 || err != api.OK {
		t.Errorf("Mul: got %d terms, error %d", product.Len(), int(err))
	}
}

func TestSums(t *testing.T) { // P14.3: Add, Sub, Neg
	s := source(11)
	for _, r := range rings() {
		all := samples(t, &s, r)
		for _, a := range all {
			x := plainOf(a.Terms())
			wantPoly(t, "Neg", r, a.Neg(), api.OK, plain{}.plus(x, -1))
			for _, b := range all {
				y := plainOf(b.Terms())
				sum, err := a.Add(b)
				wantPoly(t, "Add", r, sum, err, x.plus(y, 1))
				difference, err := a.Sub(b)
				wantPoly(t, "Sub", r, difference, err, x.plus(y, -1))
			}
		}
	}
}

func TestSumsOfManyTerms(t *testing.T) { // P14.3: the limit is of the terms that are left
	const half = mostTerms / 2
	for _, r := range []api.Ring{ring(0, api.Lex, 1), ring(7, api.GrevLex, 2)} {
		vars := len(r.Vars)
		of := func(n, first, c int) mpoly.Poly { return polyOf(t, r, row(n, first, c, vars)) }
		cases := []struct {
			a, b       mpoly.Poly
			add, sub   api.Errno
			sums, left int
		}{
			{of(half, 0, 1), of(half, half, 1), api.OK, api.OK, mostTerms, mostTerms}, {of(half, 0, 1), of(half+1, half, 1), api.ErrLimit, api.ErrLimit, 0, 0}, {of(half+1, half, 1), of(half, 0, 1), api.ErrLimit, api.ErrLimit, 0, 0},
			{of(mostTerms, 0, 1), of(0, 0, 1), api.OK, api.OK, mostTerms, mostTerms}, {of(mostTerms, 0, 1), of(1, mostTerms, 1), api.ErrLimit, api.ErrLimit, 0, 0}, {of(mostTerms, 0, 1), of(mostTerms, mostTerms, 1), api.ErrLimit, api.ErrLimit, 0, 0},
			// The same exponents: all go away, or none.
			{of(mostTerms, 0, 1), of(mostTerms, 0, 1), api.OK, api.OK, mostTerms, 0}, {of(mostTerms, 0, 1), of(mostTerms, 0, -1), api.OK, api.OK, 0, mostTerms},
			// One is new, and one goes away; two are new, and one goes away.
			{of(mostTerms, 0, 1), of(2, mostTerms-1, -1), api.OK, api.ErrLimit, mostTerms, 0}, {of(mostTerms, 0, 1), of(3, mostTerms-1, -1), api.ErrLimit, api.ErrLimit, 0, 0},
		}
		for i, c := range cases {
			sum, err := c.a.Add(c.b)
			if sum.Len() != c.sums || err != c.add {
				t.Errorf("%d over %v: Add: got %d terms, error %d, want %d, error %d", i, r, sum.Len(), int(err), c.sums, int(c.add))
			}
			difference, err := c.a.Sub(c.b)
			if difference.Len() != c.left || err != c.sub {
				t.Errorf("%d over %v: Sub: got %d terms, error %d, want %d, error %d", i, r, difference.Len(), int(err), c.left, int(c.sub))
			}
		}
	}
	two := polyOf(t, ring(2, api.Lex, 1), row(mostTerms, 0, 1, 1))
	if sum, err := two.Add(two); sum.Len() != 0 || err != api.OK {
		t.Errorf("modulo 2: Add: got %d terms, error %d", sum.Len(), int(err))
	}
}

func TestNegModulo(t *testing.T) { // P14.3
	for p, want := range map[uint64]string{2: "1", 3: "2", 7: "6", greatest: "9223372036854775782", 0: "-1"} {
		a := made(t, ring(p, api.Lex, 1), list{1, 5})
		if got := a.Neg().At(list{5}).Print(); got != want {
			t.Errorf("modulo %d: 0 less 1: got %s, want %s", p, got, want)
		}
	}
}

func TestScale(t *testing.T) { // P14.3
	s := source(12)
	for _, r := range rings() {
		for _, a := range samples(t, &s, r) {
			x := plainOf(a.Terms())
			for _, factor := range append(s.terms(6, len(r.Vars), 50), mpoly.Term{E: make(list, len(r.Vars)), C: bigint.Of(1)}, mpoly.Term{E: make(list, len(r.Vars)), C: bigint.Of(0)}, mpoly.Term{E: make(list, len(r.Vars)), C: bigint.Of(-7)}) {
				got, err := a.Scale(factor)
				wantPoly(t, "Scale", r, got, err, x.times(plainOf([]mpoly.Term{factor})))
			}
		}
	}
}

func TestScaleByWhatMayNotBe(t *testing.T) { // P14.3: ahead of the limit, also of 0 and by 0
	cases := []struct {
		e    list
		want api.Errno
	}{{nil, api.ErrArg}, {list{0}, api.ErrArg}, {list{0, 0, 0}, api.ErrArg}, {list{-1, 0}, api.ErrArg}, {list{0, math.MinInt}, api.ErrArg}, {list{mostExp + 1, 0}, api.ErrLimit}, {list{0, math.MaxInt}, api.ErrLimit}, {list{mostExp + 1, -1}, api.ErrArg}, {list{mostExp + 1}, api.ErrArg}, {make(list, 9), api.ErrArg}}
	for _, p := range []uint64{0, 7} {
		r := ring(p, api.GrevLex, 2)
		for _, a := range []mpoly.Poly{made(t, r), made(t, r, list{1, 0, 0}), made(t, r, list{1, mostExp, mostExp}), made(t, r, list{1, 1, 0}, list{1, 0, 1})} {
			for _, c := range cases {
				for _, n := range []int{0, 1, 7, -1} {
					got, err := a.Scale(mpoly.Term{E: c.e, C: bigint.Of(n)})
					wantErr(t, "Scale by what may not be", got, err, c.want)
				}
			}
		}
	}
}

func TestScaleAtTheLimit(t *testing.T) { // P14.3
	for _, p := range []uint64{0, 7} {
		r := ring(p, api.Lex, 2)
		cases := []struct {
			a    []list
			by   list
			want api.Errno
		}{
			{[]list{{1, 1, 0}}, list{1, mostExp - 1, mostExp}, api.OK}, {[]list{{1, 1, 0}}, list{1, mostExp, 0}, api.ErrLimit}, {[]list{{1, 0, 1}}, list{1, mostExp, 0}, api.OK}, {[]list{{1, 0, 1}}, list{1, 0, mostExp}, api.ErrLimit}, {[]list{{1, mostExp, mostExp}}, list{1, 0, 0}, api.OK}, {[]list{{1, mostExp, mostExp}}, list{1, 0, 1}, api.ErrLimit},
			// One of the terms is enough, wherever it stands.
			{[]list{{1, 1, 0}, {1, 0, 0}}, list{1, mostExp, 0}, api.ErrLimit}, {[]list{{1, 5, 0}, {1, 0, 1}}, list{1, 0, mostExp}, api.ErrLimit}, {[]list{{1, 5, 0}, {1, 3, 2}, {1, 0, 1}}, list{1, 0, mostExp - 1}, api.ErrLimit}, {[]list{{1, 5, 0}, {1, 3, 2}, {1, 0, 1}}, list{1, 0, mostExp - 2}, api.OK},
			// 0 has no exponents; nor has what is multiplied by 0.
			{nil, list{1, mostExp, mostExp}, api.OK}, {[]list{{1, 1, 1}}, list{0, mostExp, mostExp}, api.OK}, {nil, list{0, mostExp, mostExp}, api.OK},
		}
		for i, c := range cases {
			a, by := made(t, r, c.a...), termsOf(c.by)
			got, err := a.Scale(by[0])
			if c.want == api.OK {
				wantPoly(t, "Scale", r, got, err, plainOf(a.Terms()).times(plainOf(by)))
			} else if wantErr(t, "Scale", got, err, c.want); err != c.want {
				t.Errorf("this was %d", i)
			}
		}
	}
	// A multiple of P is 0.
	for _, n := range []int{7, -7, 14, 0, 700} {
		r := ring(7, api.Lex, 2)
		got, err := made(t, r, list{1, 1, 1}).Scale(mpoly.Term{E: list{mostExp, mostExp}, C: bigint.Of(n)})
		wantPoly(t, "Scale by a multiple of P", r, got, err, plain{})
	}
}

func TestScaleOfManyTerms(t *testing.T) { // P14.3: no terms go, and none come
	for _, order := range orders() {
		r := ring(greatest, order, 2)
		l := row(mostTerms, 0, 3, 2)
		got, err := polyOf(t, r, l).Scale(mpoly.Term{E: list{mostExp - mostTerms + 1, mostExp}, C: bigint.Of(-1)})
		if got.Len() != mostTerms || err != api.OK || got.In(0) != mostExp || got.In(1) != mostExp {
			t.Errorf("order %d: got %d terms, error %d", order, got.Len(), int(err))
		}
		if !slices.IsSortedFunc(got.Terms(), func(x, y mpoly.Term) int {
			return slices.Compare(rank(order, keyOf(y.E)), rank(order, keyOf(x.E)))
		}) {
			t.Errorf("order %d: the terms do not fall", order)
		}
	}
}
