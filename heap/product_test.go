package heap_test

import (
	"testing"

	"vinculum/api"
	"vinculum/bigint"
	"vinculum/heap"
	"vinculum/mpoly"
)

// wantMulErr holds Mul's error, whichever of both is first, and that it is mpoly's.
func wantMulErr(t *testing.T, what string, a, b mpoly.Poly, want api.Errno) {
	t.Helper()
	for _, pair := range [][2]mpoly.Poly{{a, b}, {b, a}} {
		got, err := heap.Mul(pair[0], pair[1])
		wantErr(t, "Mul of "+what, got, err, want)
		if _, err := pair[0].Mul(pair[1]); err != want {
			t.Errorf("Mul of %s: mpoly's error is %d", what, int(err))
		}
	}
}

// wantMul holds a product against mpoly's, whichever of both is first.
func wantMul(t *testing.T, what string, a, b mpoly.Poly) mpoly.Poly {
	t.Helper()
	want := fine(t)(a.Mul(b))
	wantSame(t, what, fine(t)(heap.Mul(a, b)), want)
	wantSame(t, what, fine(t)(heap.Mul(b, a)), want)
	return want
}

func TestProducts(t *testing.T) { // P16.2
	s := source(21)
	for _, r := range rings() {
		all := samples(t, &s, r)
		for i, a := range all {
			x := plainOf(a)
			for j := range 8 {
				b := all[(i+j*3)%len(all)]
				product, err := heap.Mul(a, b)
				wantPoly(t, "Mul", r, product, err, x.times(plainOf(b)))
				wantMul(t, "Mul, as mpoly's", a, b)
			}
		}
	}
}

func TestProductsOfGreatNumbers(t *testing.T) { // P16.2
	s := source(22)
	for _, p := range []uint64{0, 7, greatest} {
		r := ring(p, api.Lex, 1)
		var l []mpoly.Term
		for i := range 20 {
			c, _ := s.number().Pow(i)
			l = append(l, mpoly.Term{E: list{i}, C: c})
		}
		a := polyOf(t, r, l)
		product, err := heap.Mul(a, a)
		wantPoly(t, "Mul of great numbers", r, product, err, plainOf(a).times(plainOf(a)))
		// Modulo P all coefficients are the greatest there is: the sums are as great as they may be.
		high := polyOf(t, r, row(300, 0, -1, 0, 1))
		product, err = heap.Mul(high, high)
		wantPoly(t, "Mul of P less 1", r, product, err, plainOf(high).times(plainOf(high)))
	}
}

func TestProductsOverOtherRings(t *testing.T) { // P16.2: ErrRing, ahead of the limits
	xy := ring(0, api.Lex, 2)
	for _, a := range []mpoly.Poly{made(t, xy), made(t, xy, list{1, 1, 0}), made(t, xy, list{1, mostExp, mostExp}), polyOf(t, xy, row(5000, 0, 1, 0, 2))} {
		for _, b := range others(t) {
			wantMulErr(t, "another ring", a, b, api.ErrRing)
		}
		wantMulErr(t, "another ring, and too many pairs", a, polyOf(t, ring(7, api.Lex, 2), row(mostTerms, 0, 1, 1, 2)), api.ErrRing)
		wantMulErr(t, "another ring, and too high", a, made(t, ring(0, api.GrLex, 2), list{1, mostExp, 1}), api.ErrRing)
	}
}

func TestProductsOfNought(t *testing.T) { // P16.2: 0 of the same ring; of the zero Poly that itself
	for _, r := range rings() {
		none, high := made(t, r), polyOf(t, r, []mpoly.Term{{E: make(list, len(r.Vars)), C: bigint.Of(1)}})
		if len(r.Vars) > 0 {
			high = polyOf(t, r, append(row(1, mostExp, 1, 0, len(r.Vars)), row(2, 0, 3, len(r.Vars)-1, len(r.Vars))...))
		}
		wantSame(t, "0 times 0", fine(t)(heap.Mul(none, none)), none)
		wantSame(t, "0 times a polynomial", fine(t)(heap.Mul(none, high)), none)
		wantSame(t, "a polynomial times 0", fine(t)(heap.Mul(high, none)), none)
		wantMulErr(t, "the zero Poly by another one", mpoly.Poly{}, none, api.ErrRing)
		wantMulErr(t, "the zero Poly by another one", mpoly.Poly{}, high, api.ErrRing)
	}
	full := polyOf(t, ring(7, api.Lex, 2), row(mostTerms, 0, 1, 0, 2))
	wantMul(t, "0 times as many as may be", full, made(t, ring(7, api.Lex, 2)))
	product, err := heap.Mul(mpoly.Poly{}, mpoly.Poly{})
	wantErr(t, "Mul of zero Polys", product, err, api.OK)
}

func TestProductsWithHighExponents(t *testing.T) { // P16.2: the limit of In
	cases := []struct {
		a, b []list
		want api.Errno
	}{
		{[]list{{1, mostExp / 2, 0}}, []list{{1, mostExp / 2, 0}}, api.OK}, {[]list{{1, mostExp / 2, 0}}, []list{{1, mostExp/2 + 1, 0}}, api.ErrLimit}, {[]list{{1, mostExp, 0}}, []list{{1, 0, mostExp}}, api.OK}, {[]list{{1, mostExp, mostExp}}, []list{{1, 0, 0}}, api.OK}, {[]list{{1, mostExp, mostExp}}, []list{{5, 0, 1}}, api.ErrLimit}, {[]list{{1, 0, mostExp}, {1, 1, 0}}, []list{{1, 0, 1}, {1, 1, 0}}, api.ErrLimit},
		{[]list{{1, 5, 0}, {1, 0, mostExp}}, []list{{1, mostExp - 5, 0}, {1, 3, 0}}, api.OK}, {[]list{{1, 6, 0}, {1, 0, mostExp}}, []list{{1, mostExp - 5, 0}, {1, 3, 0}}, api.ErrLimit}, {[]list{{1, mostExp, mostExp}}, []list{{1, mostExp, mostExp}}, api.ErrLimit}, {[]list{{1, mostExp, mostExp}}, nil, api.OK},
	}
	for _, p := range []uint64{0, 2, greatest} {
		for _, order := range termOrders() {
			r := ring(p, order, 2)
			for _, c := range cases {
				a, b := made(t, r, c.a...), made(t, r, c.b...)
				if c.want != api.OK {
					wantMulErr(t, "high exponents", a, b, c.want)
					continue
				}
				product, err := heap.Mul(a, b)
				wantPoly(t, "Mul of high exponents", r, product, err, plainOf(a).times(plainOf(b)))
			}
		}
	}
}

func TestProductsOfManyTerms(t *testing.T) { // P16.2: the limit of the product's terms: 11 times 9091 is one above it
	cases := []struct {
		n, m int
		want api.Errno
	}{{1000, 100, api.OK}, {9091, 11, api.ErrLimit}, {mostTerms, 1, api.OK}, {50001, 2, api.ErrLimit}, {33333, 3, api.OK}, {33334, 3, api.ErrLimit}, {400, 300, api.ErrLimit}}
	for _, p := range []uint64{0, 2} {
		r := ring(p, api.GrLex, 2)
		for _, c := range cases {
			a, b := polyOf(t, r, row(c.n, 0, 1, 0, 2)), polyOf(t, r, row(c.m, 0, 1, 1, 2))
			if c.want != api.OK {
				wantMulErr(t, "many terms", a, b, c.want)
			} else if got := wantMul(t, "Mul of many terms", a, b); got.Len() != c.n*c.m {
				t.Errorf("Mul of %d by %d terms: got %d", c.n, c.m, got.Len())
			}
		}
	}
}

func TestProductsWhoseTermsGo(t *testing.T) { // P16.2: what is 0 in the end is no term
	for _, p := range []uint64{0, 2, greatest} {
		r := ring(p, api.Lex, 1)
		a := polyOf(t, r, row(mostTerms, 0, 1, 0, 1))
		got := wantMul(t, "1 + x + .. times x - 1", a, made(t, r, list{1, 1}, list{-1, 0}))
		wantSame(t, "1 + x + .. times x - 1", got, made(t, r, list{1, mostTerms}, list{-1, 0}))
		// All but four of the sums, which are as many as may be and three more, go away.
		got = wantMul(t, "1 + x + .. times (x - 1)(x^2 - 1)", a, made(t, r, list{1, 3}, list{-1, 2}, list{-1, 1}, list{1, 0}))
		wantSame(t, "1 + x + .. times (x - 1)(x^2 - 1)", got, made(t, r, list{1, mostTerms + 2}, list{-1, mostTerms}, list{-1, 2}, list{1, 0}))
	}
}

func TestProductsOfManyPairsAndFewTerms(t *testing.T) { // P16.2: the limit is of terms, and not of what they are the sums of
	s := source(23)
	for _, p := range []uint64{0, 2, 7} {
		for _, order := range termOrders() {
			r := ring(p, order, 3)
			a, b := s.poly(t, r, 900, 12), s.poly(t, r, 900, 12)
			if got := fine(t)(heap.Mul(a, b)); got.Len() < 5000 || !got.Is(fine(t)(a.Mul(b))) {
				t.Errorf("over %v: got %d terms", r, got.Len())
			}
		}
	}
}

// sidon is n numbers of which no two have the sum of another two.
func sidon(n, prime int) []mpoly.Term {
	l := make([]mpoly.Term, n)
	for i := range l {
		l[i] = mpoly.Term{E: list{2*prime*i + i*i%prime}, C: bigint.Of(1)}
	}
	return l
}

func TestProductsOfManySums(t *testing.T) { // P16.2: more of them than a product may have terms, of which some are 0, or none is
	two := ring(2, api.Lex, 1)
	a := polyOf(t, two, sidon(450, 457))
	square := wantMul(t, "a square modulo 2, of 101475 sums", a, a)
	if square.Len() != 450 {
		t.Errorf("a square modulo 2: got %d terms", square.Len())
	}
	b := polyOf(t, ring(0, api.Lex, 1), sidon(450, 457))
	wantMulErr(t, "a square of 101475 terms", b, b, api.ErrLimit)
}

func TestProductsOfManyPairs(t *testing.T) { // P16.2: the limit of the Lens, times one another: 41 times 97561 is one above it
	r := ring(7, api.Lex, 2)
	for _, c := range []struct {
		n, m int
		want api.Errno
	}{{2000, 2000, api.OK}, {41, 97561, api.ErrLimit}, {2000, 2001, api.ErrLimit}, {1, mostTerms, api.OK}, {mostTerms, mostTerms, api.ErrLimit}} {
		a, b := polyOf(t, r, row(c.n, 0, 1, 0, 2)), polyOf(t, r, row(c.m, 0, 1, 0, 2))
		if c.want != api.OK {
			wantMulErr(t, "many pairs", a, b, c.want)
		} else {
			wantSame(t, "Mul of many pairs", fine(t)(heap.Mul(a, b)), fine(t)(a.Mul(b)))
		}
	}
	// Where the product has few terms, the limit is there nonetheless.
	two := ring(2, api.Lex, 2)
	long := polyOf(t, two, row(2001, 0, 1, 0, 2))
	wantMulErr(t, "too many pairs, a square modulo 2", long, long, api.ErrLimit)
}
