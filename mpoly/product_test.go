package mpoly_test

import (
	"math"
	"testing"

	"vinculum/api"
	"vinculum/bigint"
	"vinculum/mpoly"
)

func TestProductExamples(t *testing.T) { // P14.4
	xy := ring(0, api.Lex, 2)
	a, b := made(t, xy, list{1, 1, 0}, list{1, 0, 1}), made(t, xy, list{1, 1, 0}, list{-1, 0, 1})
	product, err := a.Mul(b)
	if !product.Is(made(t, xy, list{1, 2, 0}, list{-1, 0, 2})) || err != api.OK {
		t.Errorf("x + y times x - y: got %d terms, error %d", product.Len(), int(err))
	}
	two := ring(2, api.Lex, 2)
	square, err := made(t, two, list{1, 1, 0}, list{1, 0, 1}).Pow(2)
	if !square.Is(made(t, two, list{1, 2, 0}, list{1, 0, 2})) || err != api.OK {
		t.Errorf("x + y to the 2nd, modulo 2: got %d terms, error %d", square.Len(), int(err))
	}
}

func TestProducts(t *testing.T) { // P14.4
	s := source(21)
	for _, r := range rings() {
		all := samples(t, &s, r)
		for i, a := range all {
			x := plainOf(a.Terms())
			for j := range 8 {
				b := all[(i+j*3)%len(all)]
				product, err := a.Mul(b)
				wantPoly(t, "Mul", r, product, err, x.times(plainOf(b.Terms())))
			}
		}
	}
}

func TestProductsOfGreatNumbers(t *testing.T) { // P14.4
	s := source(22)
	for _, p := range []uint64{0, 7, greatest} {
		r := ring(p, api.Lex, 1)
		var l []mpoly.Term
		for i := range 20 {
			c, _ := s.number().Pow(i)
			l = append(l, mpoly.Term{E: list{i}, C: c})
		}
		a, x := polyOf(t, r, l), plainOf(l)
		product, err := a.Mul(a)
		wantPoly(t, "Mul of great numbers", r, product, err, x.times(x))
		// Modulo P all coefficients are the greatest there is: the sums are as great as they may be.
		high := polyOf(t, r, row(300, 0, -1, 1))
		product, err = high.Mul(high)
		wantPoly(t, "Mul of P less 1", r, product, err, plainOf(high.Terms()).times(plainOf(high.Terms())))
	}
}

func TestProductsWithHighExponents(t *testing.T) { // P14.4: the limit of In
	cases := []struct {
		a, b []list
		want api.Errno
	}{
		{[]list{{1, mostExp / 2, 0}}, []list{{1, mostExp / 2, 0}}, api.OK}, {[]list{{1, mostExp / 2, 0}}, []list{{1, mostExp/2 + 1, 0}}, api.ErrLimit}, {[]list{{1, mostExp, 0}}, []list{{1, 0, mostExp}}, api.OK}, {[]list{{1, mostExp, mostExp}}, []list{{1, 0, 0}}, api.OK}, {[]list{{1, mostExp, mostExp}}, []list{{5, 0, 1}}, api.ErrLimit}, {[]list{{1, 0, mostExp}, {1, 1, 0}}, []list{{1, 0, 1}, {1, 1, 0}}, api.ErrLimit},
		{[]list{{1, 5, 0}, {1, 0, mostExp}}, []list{{1, mostExp - 5, 0}, {1, 3, 0}}, api.OK}, {[]list{{1, 6, 0}, {1, 0, mostExp}}, []list{{1, mostExp - 5, 0}, {1, 3, 0}}, api.ErrLimit}, {[]list{{1, mostExp, mostExp}}, []list{{1, mostExp, mostExp}}, api.ErrLimit},
		// 0 times what may be is 0.
		{nil, []list{{1, mostExp, mostExp}}, api.OK}, {[]list{{1, mostExp, mostExp}}, nil, api.OK}, {nil, nil, api.OK},
	}
	for _, p := range []uint64{0, 2, greatest} {
		for _, order := range orders() {
			r := ring(p, order, 2)
			for i, c := range cases {
				a, b := made(t, r, c.a...), made(t, r, c.b...)
				for _, pair := range [][2]mpoly.Poly{{a, b}, {b, a}} {
					got, err := pair[0].Mul(pair[1])
					if c.want == api.OK {
						wantPoly(t, "Mul", r, got, err, plainOf(a.Terms()).times(plainOf(b.Terms())))
					} else if wantErr(t, "Mul", got, err, c.want); err != c.want {
						t.Errorf("this was %d", i)
					}
				}
			}
		}
	}
}

// column is n terms of y, to the powers from 0 on.
func column(n int) []mpoly.Term {
	l := make([]mpoly.Term, n)
	for i := range l {
		l[i] = mpoly.Term{E: list{0, i}, C: bigint.Of(1)}
	}
	return l
}

func TestProductsOfManyTerms(t *testing.T) { // P14.4: the limit of the product's terms
	cases := []struct {
		n, m int
		want api.Errno
	}{{1000, 100, api.OK}, {9091, 11, api.ErrLimit}, {11, 9091, api.ErrLimit}, {100, 1000, api.OK}, {mostTerms, 1, api.OK}, {50000, 2, api.OK}, {50001, 2, api.ErrLimit}, {33333, 3, api.OK}, {33334, 3, api.ErrLimit}, {1, mostTerms, api.OK}, {400, 300, api.ErrLimit}}
	for _, p := range []uint64{0, 2} {
		r := ring(p, api.GrLex, 2)
		for _, c := range cases {
			got, err := polyOf(t, r, row(c.n, 0, 1, 2)).Mul(polyOf(t, r, column(c.m)))
			if c.want != api.OK {
				wantErr(t, "Mul of many terms", got, err, c.want)
			} else if got.Len() != c.n*c.m || err != api.OK || got.In(0) != c.n-1 || got.In(1) != c.m-1 {
				t.Errorf("Mul of %d by %d terms: got %d, error %d", c.n, c.m, got.Len(), int(err))
			}
		}
	}
}

func TestProductsWhoseTermsGo(t *testing.T) { // P14.4: what is 0 in the end is no term
	for _, p := range []uint64{0, 2, greatest} {
		r := ring(p, api.Lex, 1)
		a := polyOf(t, r, row(mostTerms, 0, 1, 1))
		got, err := a.Mul(made(t, r, list{1, 1}, list{-1, 0}))
		if !got.Is(made(t, r, list{1, mostTerms}, list{-1, 0})) || err != api.OK {
			t.Errorf("modulo %d: 1 + x + .. times x - 1: got %d terms, error %d", p, got.Len(), int(err))
		}
		// All but four of the sums, which are as many as may be and three more, go away.
		b := made(t, r, list{1, 3}, list{-1, 2}, list{-1, 1}, list{1, 0})
		got, err = a.Mul(b)
		if !got.Is(made(t, r, list{1, mostTerms + 2}, list{-1, mostTerms}, list{-1, 2}, list{1, 0})) || err != api.OK {
			t.Errorf("modulo %d: 1 + x + .. times (x - 1)(x^2 - 1): got %d terms, error %d", p, got.Len(), int(err))
		}
	}
}

func TestProductsOfManyPairs(t *testing.T) { // P14.4: the limit of the Lens, times one another: 41 times 97561 is one above it
	r := ring(7, api.Lex, 2)
	for _, c := range []struct {
		n, m int
		want api.Errno
	}{{2000, 2000, api.OK}, {41, 97561, api.ErrLimit}, {97561, 41, api.ErrLimit}, {2000, 2001, api.ErrLimit}, {40, mostTerms - 39, api.OK}, {1, mostTerms, api.OK}, {0, mostTerms, api.OK}, {mostTerms, mostTerms, api.ErrLimit}} {
		got, err := polyOf(t, r, row(c.n, 0, 1, 2)).Mul(polyOf(t, r, row(c.m, 0, 1, 2)))
		if c.want != api.OK {
			wantErr(t, "Mul of many pairs", got, err, c.want)
		} else if c.n > 0 && got.In(0) != c.n+c.m-2 || err != api.OK {
			t.Errorf("Mul of %d by %d terms: got %d, error %d", c.n, c.m, got.Len(), int(err))
		}
	}
	// Where the product has few terms, the limit is there nonetheless.
	two := ring(2, api.Lex, 2)
	for n, want := range map[int]api.Errno{2000: api.OK, 2001: api.ErrLimit} {
		a := polyOf(t, two, row(n, 0, 1, 2))
		square, err := a.Mul(a)
		if err != want || want == api.OK && square.Len() != n {
			t.Errorf("modulo 2: a square of %d terms: got %d, error %d, want the error %d", n, square.Len(), int(err), int(want))
		}
	}
}

func TestPowers(t *testing.T) { // P14.4: 1 by a, that by a, and so on
	s := source(23)
	for _, r := range rings() {
		one := polyOf(t, r, []mpoly.Term{{E: make(list, len(r.Vars)), C: bigint.Of(1)}})
		for _, l := range []int{0, 1, 2, 3, 4} {
			a := s.poly(t, r, l, 3)
			x, want := plainOf(a.Terms()), plainOf(one.Terms())
			for n := range 7 {
				power, err := a.Pow(n)
				wantPoly(t, "Pow", r, power, err, want)
				want = want.times(x).within(r)
			}
		}
	}
}

func TestPowersOfNoughtAndOne(t *testing.T) { // P14.4
	for _, r := range rings() {
		none := make(list, len(r.Vars))
		one := polyOf(t, r, []mpoly.Term{{E: none, C: bigint.Of(1)}})
		for _, n := range []int{0, 1, 2, 999, mostPower} {
			want := plain{}
			if n == 0 {
				want = plainOf(one.Terms())
			}
			power, err := made(t, r).Pow(n)
			wantPoly(t, "a power of 0", r, power, err, want)
			power, err = one.Pow(n)
			wantPoly(t, "a power of 1", r, power, err, plainOf(one.Terms()))
			power, err = one.Neg().Pow(n)
			want = plain{}.plus(plainOf(one.Terms()), int64(1-2*(n%2)))
			wantPoly(t, "a power of -1", r, power, err, want)
		}
	}
}

func TestWhichPowersThereAre(t *testing.T) { // P14.4: ErrArg, ahead of the limit
	r := ring(0, api.Lex, 1)
	for _, a := range []mpoly.Poly{made(t, r), made(t, r, list{1, 0}), made(t, r, list{1, 1}, list{1, 0}), made(t, r, list{2, mostExp}), polyOf(t, r, row(mostTerms, 0, 1, 1))} {
		for _, n := range []int{-1, -2, math.MinInt, mostPower + 1, math.MaxInt} {
			power, err := a.Pow(n)
			wantErr(t, "Pow by what may not be", power, err, api.ErrArg)
		}
	}
	power, err := made(t, r, list{1, 1}, list{1, 0}).Pow(mostPower)
	middle, _ := power.At(list{mostPower / 2}).Mod(998244353)
	if power.Len() != mostPower+1 || err != api.OK || middle != 640488516 {
		t.Errorf("x + 1 to the 1000th: got %d terms, %d in the middle, error %d", power.Len(), middle, int(err))
	}
}

func TestPowersWithHighExponents(t *testing.T) { // P14.4: the limit of In, times n
	cases := []struct {
		a    []list
		n    int
		want api.Errno
	}{
		{[]list{{1, mostExp, mostExp}}, 0, api.OK}, {[]list{{1, mostExp, mostExp}}, 1, api.OK}, {[]list{{1, mostExp, 0}}, 2, api.ErrLimit}, {[]list{{1, mostExp / 2, mostExp / 2}}, 2, api.OK}, {[]list{{1, 0, mostExp/2 + 1}}, 2, api.ErrLimit}, {[]list{{1, mostExp/2 + 1, 0}, {1, 0, 0}}, 2, api.ErrLimit}, {[]list{{1, 5, 5}, {1, 0, mostExp/3 + 1}}, 3, api.ErrLimit}, {[]list{{1, 5, 5}, {1, 0, mostExp / 3}}, 3, api.OK},
		{[]list{{1, 1048, 1048}}, mostPower, api.OK}, {[]list{{1, 1049, 0}}, mostPower, api.ErrLimit}, {[]list{{1, 0, 1049}}, mostPower, api.ErrLimit}, {[]list{{1, mostExp, mostExp}}, mostPower, api.ErrLimit}, {nil, mostPower, api.OK},
	}
	for _, p := range []uint64{0, 2, greatest} {
		r := ring(p, api.GrevLex, 2)
		for i, c := range cases {
			a := made(t, r, c.a...)
			power, err := a.Pow(c.n)
			if c.want != api.OK {
				wantErr(t, "Pow", power, err, c.want)
			} else if c.n > 0 && a.Len() > 0 && (power.In(0) != c.n*a.In(0) || power.In(1) != c.n*a.In(1)) || err != api.OK {
				t.Errorf("%d: modulo %d: got In %d and %d, error %d", i, p, power.In(0), power.In(1), int(err))
			}
		}
	}
}

func TestPowersOnTheWay(t *testing.T) { // P14.4: an error of one product is that of the power, though its end has few terms
	two := ring(2, api.Lex, 1)
	var l []mpoly.Term
	for i := range 400 { // so that the sums of two are told apart, nearly all of them
		l = append(l, mpoly.Term{E: list{i*401 + i*i%401}, C: bigint.Of(1)})
	}
	a := polyOf(t, two, l)
	square, err := a.Pow(2)
	if square.Len() != 400 || err != api.OK {
		t.Errorf("a square modulo 2: got %d terms, error %d", square.Len(), int(err))
	}
	again, err := square.Pow(2)
	if again.Len() != 400 || err != api.OK {
		t.Errorf("a square of a square modulo 2: got %d terms, error %d", again.Len(), int(err))
	}
	for _, n := range []int{3, 4} {
		power, err := a.Pow(n)
		wantErr(t, "a power whose third one has too many terms", power, err, api.ErrLimit)
	}
	long := polyOf(t, two, row(2001, 0, 1, 1))
	power, err := long.Pow(1)
	wantPoly(t, "Pow by 1", two, power, err, plainOf(long.Terms()))
	power, err = long.Pow(2)
	wantErr(t, "a power of too many pairs", power, err, api.ErrLimit)
	full := polyOf(t, two, row(mostTerms, 0, 1, 1))
	power, err = full.Pow(1)
	if !power.Is(full) || err != api.OK {
		t.Errorf("Pow by 1: got %d terms, error %d", power.Len(), int(err))
	}
}
