package heap_test

import (
	"slices"
	"testing"

	"vinculum/api"
	"vinculum/heap"
	"vinculum/mpoly"
)

func wantSum(t *testing.T, what string, r api.Ring, l polys) {
	t.Helper()
	want := plain{}
	for _, a := range l {
		want.take(plainOf(a))
	}
	got, err := heap.Sum(r, l)
	wantPoly(t, what, r, got, err, want)
}

func wantSumErr(t *testing.T, what string, r api.Ring, l polys, want api.Errno) {
	t.Helper()
	got, err := heap.Sum(r, l)
	wantErr(t, "Sum of "+what, got, err, want)
}

func TestSums(t *testing.T) { // P16.2
	s := source(41)
	for _, r := range rings() {
		all := samples(t, &s, r)
		wantSum(t, "Sum of all", r, all)
		for _, n := range []int{1, 2, 3, 4, 10} {
			for range 4 {
				var l polys
				for range n {
					l = append(l, all[s.below(len(all))])
				}
				wantSum(t, "Sum", r, l)
			}
		}
	}
}

func TestSumsOfNone(t *testing.T) { // P16.2: 0 of r
	s := source(42)
	for _, r := range rings() {
		a := s.poly(t, r, 9, 4)
		for _, l := range []polys{nil, {}, {made(t, r)}, {made(t, r), made(t, r)}, {a, a.Neg()}, {a.Neg(), made(t, r), a}} {
			wantSame(t, "Sum that is 0", fine(t)(heap.Sum(r, l)), made(t, r))
		}
		wantSame(t, "Sum of one", fine(t)(heap.Sum(r, polys{a})), a)
	}
}

func TestSumsModuloPrimes(t *testing.T) { // P16.2: P times a polynomial is 0
	s := source(43)
	for _, p := range []uint64{2, 7, 97} {
		for _, order := range termOrders() {
			r := ring(p, order, 2)
			a := s.poly(t, r, 12, 4)
			for n := range int(p) + 2 {
				want := fine(t)(heap.Mul(a, number(t, r, n)))
				wantSame(t, "Sum of the same again and again", fine(t)(heap.Sum(r, slices.Repeat(polys{a}, n))), want)
			}
		}
	}
}

func TestSumsOfManyPolynomials(t *testing.T) { // P16.2
	s := source(44)
	for _, p := range []uint64{0, greatest} {
		r := ring(p, api.GrLex, 2)
		var l polys
		for range 20000 {
			l = append(l, s.poly(t, r, s.below(3), 6))
		}
		wantSum(t, "Sum of 20000", r, l)
	}
}

func TestSumsCheckTheRing(t *testing.T) { // P16.2: ahead of all else
	x := made(t, ring(0, api.Lex, 2), list{1, 1, 0})
	bad := []struct {
		r    api.Ring
		want api.Errno
	}{{api.Ring{}, api.ErrArg}, {ring(0, 4, 2), api.ErrArg}, {ring(9, 0, 2), api.ErrArg}, {ring(9, -1, 2), api.ErrArg}, {api.Ring{Vars: make([]string, 9), Order: 1}, api.ErrArg}, {api.Ring{Vars: []string{"x", "x"}, Order: 1}, api.ErrName}, {api.Ring{P: 9, Vars: []string{"_"}, Order: 1}, api.ErrName}, {ring(9, 1, 2), api.ErrPrime}, {ring(1, 1, 2), api.ErrPrime}, {ring(1<<63+29, 1, 2), api.ErrPrime}}
	for _, c := range bad {
		for _, l := range []polys{nil, {}, {{}}, {x}, {x, {}}} {
			wantSumErr(t, "a ring that may not be", c.r, l, c.want)
		}
	}
}

func TestSumsOverOtherRings(t *testing.T) { // P16.2: ErrRing, ahead of the limit
	xy := ring(0, api.Lex, 2)
	x, long := made(t, xy, list{1, 1, 0}), polyOf(t, xy, row(mostTerms, 0, 1, 0, 2))
	for _, b := range others(t) {
		for _, l := range []polys{{b}, {x, b}, {b, x}, {x, x, b}, {x, b, x}, {long, x, polyOf(t, xy, row(1, 0, 1, 1, 2)), b}, {b, b}} {
			wantSumErr(t, "another ring", xy, l, api.ErrRing)
		}
		if err := mpoly.Check(b.Ring()); err == api.OK {
			wantSumErr(t, "another ring than r", b.Ring(), polys{x}, api.ErrRing)
			wantSum(t, "Sum in its own ring", b.Ring(), polys{b, b})
		}
	}
}

func TestSumsOfManyTerms(t *testing.T) { // P16.2: the limit is of the sum
	for _, p := range []uint64{0, 2, 7} {
		r := ring(p, api.GrevLex, 2)
		x := func(n, first, c int) mpoly.Poly { return polyOf(t, r, row(n, first, c, 0, 2)) }
		y := func(n, first, c int) mpoly.Poly { return polyOf(t, r, row(n, first, c, 1, 2)) }
		cases := []struct {
			what string
			l    polys
			want int // how many terms, or -1
		}{
			{"as many as may be", polys{x(mostTerms, 0, 1)}, mostTerms}, {"as many, in parts", polys{x(40000, 60000, 1), x(60000, 0, 1)}, mostTerms}, {"one more at the end", polys{x(mostTerms, 1, 1), number(t, r, 1)}, -1}, {"one more ahead", polys{x(mostTerms, 0, 1), x(1, mostTerms, 1)}, -1}, {"one more beside", polys{x(mostTerms, 0, 1), y(1, 5, 1)}, -1}, {"one more, of which one goes at the end", polys{x(mostTerms, 0, 1), y(1, 5, 1), number(t, r, -1)}, mostTerms}, {"one more, which goes at the end", polys{x(mostTerms, 1, 1), number(t, r, 1), number(t, r, -1)}, mostTerms}, {"one more, of which one goes ahead", polys{x(mostTerms, 0, 1), y(1, 5, 1), x(1, mostTerms-1, -1)}, mostTerms},
			{"many that go", polys{x(mostTerms, 0, 1), y(mostTerms, 1, 1), x(mostTerms, 1, -1), y(mostTerms, 2, -1)}, 4}, {"far too many", polys{x(mostTerms, 0, 1), y(mostTerms, 0, 1)}, -1},
		}
		for _, c := range cases {
			got, err := heap.Sum(r, c.l)
			if c.want < 0 {
				wantErr(t, "Sum of "+c.what, got, err, api.ErrLimit)
			} else if got.Len() != c.want || err != api.OK {
				t.Errorf("modulo %d: Sum of %s: got %d terms, error %d, want %d", p, c.what, got.Len(), int(err), c.want)
			}
		}
	}
}

func TestSumsWithHighExponents(t *testing.T) { // P16.2: there is no limit but that of a polynomial
	for _, r := range rings() {
		if len(r.Vars) == 0 {
			continue
		}
		e := slices.Repeat(list{mostExp}, len(r.Vars))
		high := made(t, r, append(list{3}, e...), append(list{2}, make(list, len(r.Vars))...))
		wantSum(t, "Sum of high exponents", r, polys{high, high, number(t, r, -5)})
	}
}
