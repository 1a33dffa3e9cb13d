package heap_test

import (
	"slices"
	"testing"

	"vinculum/api"
	"vinculum/heap"
	"vinculum/mpoly"
)

type polys = []mpoly.Poly

// wantDot holds Dot against a plain sum of plain products.
func wantDot(t *testing.T, what string, r api.Ring, a, b polys) {
	t.Helper()
	want := plain{}
	for i := range a {
		want.take(plainOf(a[i]).times(plainOf(b[i])))
	}
	got, err := heap.Dot(a, b)
	wantPoly(t, what, r, got, err, want)
}

func wantDotErr(t *testing.T, what string, a, b polys, want api.Errno) {
	t.Helper()
	got, err := heap.Dot(a, b)
	wantErr(t, "Dot of "+what, got, err, want)
	got, err = heap.Dot(b, a)
	wantErr(t, "Dot, the other way about, of "+what, got, err, want)
}

func TestDotExample(t *testing.T) { // P16.2
	xy := ring(0, api.Lex, 2)
	x, y := made(t, xy, list{1, 1, 0}), made(t, xy, list{1, 0, 1})
	got := fine(t)(heap.Dot(polys{x, y}, polys{x, y.Neg()}))
	wantSame(t, "Dot of (x, y) and (x, -y)", got, made(t, xy, list{1, 2, 0}, list{-1, 0, 2}))
}

func TestDots(t *testing.T) { // P16.2
	s := source(31)
	for _, r := range rings() {
		all := samples(t, &s, r)
		for _, n := range []int{1, 2, 3, 4, 10} {
			for range 3 {
				var a, b polys
				for range n {
					a, b = append(a, all[s.below(len(all))]), append(b, all[s.below(len(all))])
				}
				wantDot(t, "Dot", r, a, b)
			}
		}
	}
}

func TestDotsOfManyPolynomials(t *testing.T) { // P16.2
	s := source(32)
	for _, p := range []uint64{0, 7} {
		r := ring(p, api.GrevLex, 3)
		var a, b polys
		for range 3000 {
			a, b = append(a, s.poly(t, r, s.below(3), 5)), append(b, s.poly(t, r, s.below(3), 5))
		}
		wantDot(t, "Dot of 3000", r, a, b)
	}
}

func TestDotsThatDoNotMatch(t *testing.T) { // P16.2: ErrArg, ahead of all else
	xy, other := made(t, ring(0, api.Lex, 2), list{1, 1, 0}), made(t, ring(7, api.Lex, 2), list{1, 1, 0})
	high := made(t, ring(0, api.Lex, 2), list{1, mostExp, 0})
	for what, c := range map[string][2]polys{
		"none": {nil, nil}, "none and none": {polys{}, nil}, "one and none": {polys{xy}, nil}, "one and two": {polys{xy}, polys{xy, xy}}, "three and two": {polys{xy, xy, xy}, polys{xy, xy}}, "other rings": {polys{xy, other}, polys{other}}, "high exponents": {polys{high, high}, polys{high}}, "zero Polys": {polys{{}}, polys{{}, {}}}, "a zero Poly": {polys{{}}, nil},
	} {
		wantDotErr(t, what, c[0], c[1], api.ErrArg)
	}
}

func TestDotsFirstError(t *testing.T) { // P16.2: of the Muls, one by one; ErrRing of all behind them
	r, q := ring(0, api.Lex, 2), ring(0, api.GrLex, 2)
	x, y := made(t, r, list{1, 1, 0}), made(t, q, list{1, 1, 0})
	high, highQ := made(t, r, list{1, mostExp, 0}), made(t, q, list{1, mostExp, 0})
	long, longQ := polyOf(t, r, row(2001, 0, 1, 0, 2)), polyOf(t, q, row(2001, 0, 1, 0, 2))
	wide, tall := polyOf(t, r, row(400, 0, 1, 0, 2)), polyOf(t, r, row(300, 0, 1, 1, 2))
	wideQ, tallQ := polyOf(t, q, row(400, 0, 1, 0, 2)), polyOf(t, q, row(300, 0, 1, 1, 2))
	most, eleven := polyOf(t, r, row(9091, 0, 1, 0, 2)), polyOf(t, r, row(11, 0, 1, 1, 2)) // one term too many
	cases := map[string]struct {
		a, b polys
		want api.Errno
	}{
		"a pair of other rings": {polys{x, x}, polys{x, y}, api.ErrRing}, "pairs of other rings": {polys{x, y}, polys{x, y}, api.ErrRing}, "three pairs, the last one of another ring": {polys{x, x, y}, polys{x, x, y}, api.ErrRing}, "three pairs, that in the middle of another ring": {polys{x, y, x}, polys{x, y, x}, api.ErrRing},
		"ring, high": {polys{x, high}, polys{y, x}, api.ErrRing}, "high, ring": {polys{high, x}, polys{x, y}, api.ErrLimit}, "ring, long": {polys{y, long}, polys{x, long}, api.ErrRing}, "long, ring": {polys{long, y}, polys{long, x}, api.ErrLimit}, "wide, ring": {polys{wide, x}, polys{tall, y}, api.ErrLimit}, "ring, wide": {polys{x, wide}, polys{y, tall}, api.ErrRing},
		"high in another ring": {polys{x, highQ}, polys{x, y}, api.ErrLimit}, "long in another ring": {polys{x, longQ}, polys{x, longQ}, api.ErrLimit}, "wide in another ring": {polys{x, wideQ}, polys{x, tallQ}, api.ErrLimit},
		"wide, and that taken off": {polys{wide, wide.Neg()}, polys{tall, tall}, api.ErrLimit}, "one too many, and that taken off": {polys{most, most.Neg()}, polys{eleven, eleven}, api.ErrLimit}, "0, and one too many": {polys{made(t, r), most}, polys{x, eleven}, api.ErrLimit}, "long, and 0": {polys{long, made(t, r)}, polys{long, x}, api.ErrLimit}, "high, and that taken off": {polys{high, high.Neg()}, polys{x, x}, api.ErrLimit},
		"a zero Poly and others": {polys{{}, x}, polys{{}, x}, api.ErrRing}, "others and a zero Poly": {polys{x, {}}, polys{x, {}}, api.ErrRing}, "a zero Poly by another one": {polys{{}}, polys{x}, api.ErrRing}, "a zero Poly and a high one": {polys{{}, high}, polys{{}, x}, api.ErrLimit}, "noughts of other rings": {polys{made(t, r), made(t, q)}, polys{made(t, r), made(t, q)}, api.ErrRing},
	}
	for what, c := range cases {
		wantDotErr(t, what, c.a, c.b, c.want)
	}
	for _, other := range others(t) {
		wantDotErr(t, "a ring that is near", polys{x, other}, polys{x, other}, api.ErrRing)
		wantDotErr(t, "a ring that is near, and too many terms", polys{wide, tall, other}, polys{polyOf(t, r, row(250, 0, 1, 1, 2)), polyOf(t, r, row(250, 1000, 1, 0, 2)), other}, api.ErrRing)
	}
}

func TestDotsOfZeroPolys(t *testing.T) { // P16.2: 0 of the zero Ring
	for n := range 3 {
		l := slices.Repeat(polys{{}}, n+1)
		wantDotErr(t, "zero Polys", l, l, api.OK)
	}
}

func TestDotsOfNoughts(t *testing.T) { // P16.2: 0 of the ring
	s := source(33)
	for _, r := range rings() {
		none, a, b := made(t, r), s.poly(t, r, 5, 4), s.poly(t, r, 7, 4)
		for _, c := range [][2]polys{{{none}, {none}}, {{none}, {a}}, {{none, a}, {a, none}}, {{a, b}, {b, a.Neg()}}, {{a, a, a}, {b, b.Neg(), none}}} {
			wantSame(t, "Dot that is 0", fine(t)(heap.Dot(c[0], c[1])), none)
			wantSame(t, "Dot that is 0", fine(t)(heap.Dot(c[1], c[0])), none)
		}
	}
}

func TestDotsOfManyTerms(t *testing.T) { // P16.2: the limit is of the sum
	for _, p := range []uint64{0, 2, greatest} {
		r := ring(p, api.GrLex, 2)
		x, y := func(n, first int) mpoly.Poly { return polyOf(t, r, row(n, first, 1, 0, 2)) }, func(n, first int) mpoly.Poly { return polyOf(t, r, row(n, first, 1, 1, 2)) }
		three := made(t, r, list{1, 0, 0}, list{1, 2, 0}, list{1, 0, 1}) // n powers of x times it: twice n, and 2 more terms
		overlap := 1499
		if p == 2 {
			overlap = 300 // the even ones alone, and of these not those that come twice
		}
		cases := []struct {
			what string
			a, b polys
			want int // how many terms, or -1
		}{
			{"as many as may be", polys{x(500, 0), x(500, 500)}, polys{y(100, 0), y(100, 0)}, mostTerms}, {"one more", polys{x(500, 0), x(500, 500), number(t, r, 1)}, polys{y(100, 0), y(100, 0), y(1, 200)}, -1}, {"one fewer", polys{x(500, 0), x(500, 500), number(t, r, -1)}, polys{y(100, 0), y(100, 0), number(t, r, 1)}, mostTerms - 1},
			{"twice as many", polys{x(1000, 0), x(1000, 1000)}, polys{y(100, 0), y(100, 0)}, -1}, {"twice as many, of which a half goes", polys{x(1000, 0), x(1000, 1000), x(1000, 0).Neg()}, polys{y(100, 0), y(100, 0), y(100, 0)}, mostTerms}, {"long ones that overlap", polys{x(600, 0), x(600, 300)}, polys{x(600, 0), x(600, 0)}, overlap},
			{"as many as may be, and that taken off", polys{x(1000, 0), x(1000, 0).Neg()}, polys{y(100, 0), y(100, 0)}, 0}, {"as many as may be, of far more pairs, and that taken off", polys{x(49999, 0), x(49999, 0).Neg()}, polys{three, three}, 0},
			{"three that go together", polys{x(mostTerms, 0), x(mostTerms, 100), x(mostTerms, 200)}, polys{number(t, r, 1), number(t, r, -2), number(t, r, 1)}, 400},
		}
		for _, c := range cases {
			got, err := heap.Dot(c.a, c.b)
			if c.want < 0 {
				wantErr(t, "Dot of "+c.what, got, err, api.ErrLimit)
			} else if got.Len() != c.want || err != api.OK {
				t.Errorf("modulo %d: Dot of %s: got %d terms, error %d, want %d", p, c.what, got.Len(), int(err), c.want)
			}
		}
	}
}
