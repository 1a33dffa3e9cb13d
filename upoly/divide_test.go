package upoly_test

import (
	"math"
	"slices"
	"testing"

	"vinculum/api"
	"vinculum/upoly"
)

// lead is a highest coefficient: modulo no prime here it is 0, and modulo 2 alone it is 1.
const lead = 23

// wantDivMod holds a quotient and what is left against what they are to be: there is one such pair alone.
func wantDivMod(t *testing.T, f *upoly.Field, a, b poly) {
	t.Helper()
	p := f.P()
	q, r, err := f.DivMod(a, b)
	if err != api.OK || len(r) >= len(normOf(b, p)) {
		t.Fatalf("modulo %d: DivMod of %d by %d: got %d, left %d, error %d", p, short(a), short(b), short(q), short(r), int(err))
	}
	wantPoly(t, "the quotient", p, q, normOf(q, p))
	wantPoly(t, "what is left", p, r, normOf(r, p))
	wantPoly(t, "the quotient, multiplied back", p, sumOf(productOf(q, b, p), r, p), normOf(a, p))
}

func TestDivMod(t *testing.T) { // P9.2
	cases := []struct {
		p          uint64
		a, b, q, r poly
	}{
		{7, poly{1, 0, 1}, poly{1, 1}, poly{6, 1}, poly{2}}, {7, poly{1, 1}, poly{1, 0, 1}, nil, poly{1, 1}}, {7, nil, poly{3}, nil, nil}, {7, poly{1, 2, 3}, poly{2}, poly{4, 1, 5}, nil},
		{7, poly{1, 3, 3, 1}, poly{1, 2, 1}, poly{1, 1}, nil}, {7, poly{8, 7, 8, 7}, poly{8, 8, 14}, poly{6, 1}, poly{2}}, {7, poly{5, 1}, poly{3, 1}, poly{1}, poly{2}},
		{7, poly{5}, poly{3}, poly{4}, nil}, {7, poly{0, 0, 0, 0, 1}, poly{0, 0, 1}, poly{0, 0, 1}, nil}, {7, poly{7, 14}, poly{1, 1}, nil, nil}, {7, poly{1, 0, 0}, poly{0, 1, 0, 7}, nil, poly{1}},
		{2, poly{1, 0, 0, 1}, poly{1, 1}, poly{1, 1, 1}, nil}, {2, poly{0, 0, 1}, poly{1, 1}, poly{1, 1}, poly{1}},
		{greatest, poly{0, 0, 1}, poly{1, 1}, poly{greatest - 1, 1}, poly{1}}, {greatest, poly{0, 0, 1}, poly{0, greatest - 1}, poly{0, greatest - 1}, nil},
	}
	for _, c := range cases {
		f := fieldOf(t, c.p)
		q, r, err := f.DivMod(c.a, c.b)
		if err != api.OK {
			t.Errorf("modulo %d: DivMod of %d by %d: error %d", c.p, c.a, c.b, int(err))
		}
		wantPoly(t, "the quotient", c.p, q, c.q)
		wantPoly(t, "what is left", c.p, r, c.r)
	}
}

func TestDivModOfAllSmallPolynomials(t *testing.T) { // P9.2
	for p, n := range map[uint64]int{2: 6, 3: 4, 5: 3} {
		f := fieldOf(t, p)
		for _, a := range allOf(p, n) {
			for _, b := range allOf(p, n) {
				if len(normOf(b, p)) > 0 {
					wantDivMod(t, f, a, b)
				}
			}
		}
	}
}

func TestDivModOfMany(t *testing.T) { // P9.2
	s := source(21)
	for _, p := range primes() {
		f := fieldOf(t, p)
		for i := range 14 {
			for j := range 14 {
				wantDivMod(t, f, s.words(i), append(s.words(j), lead))
				wantDivMod(t, f, s.ofDeg(i), s.ofDeg(j))
			}
		}
		for _, n := range [][2]int{{200, 1}, {200, 50}, {200, 199}, {200, 200}, {199, 200}, {600, 300}} {
			wantDivMod(t, f, s.words(n[0]), append(s.words(n[1]-1), lead))
		}
	}
}

func TestDivisionByZero(t *testing.T) { // P9.2, P9.3
	for _, p := range []uint64{2, 7, greatest} {
		f := fieldOf(t, p)
		for _, b := range []poly{nil, {}, {0}, {p}, {0, 2 * p, p, 0}} {
			for _, a := range []poly{nil, {0}, {1}, {5, 1}, {p, p}} {
				if q, r, err := f.DivMod(a, b); len(q) != 0 || len(r) != 0 || err != api.ErrDivZero {
					t.Errorf("modulo %d: DivMod of %d by %d: got %d, left %d, error %d", p, a, b, q, r, int(err))
				}
				for _, n := range []uint64{0, 1, 2, math.MaxUint64} {
					if got, err := f.PowMod(a, n, b); len(got) != 0 || err != api.ErrDivZero {
						t.Errorf("modulo %d: PowMod of %d to the %dth, by %d: got %d, error %d", p, a, n, b, got, int(err))
					}
				}
			}
		}
	}
}

// divides tells whether a polynomial with 1 as its highest coefficient divides another one, step by step.
func divides(g, a poly, p uint64) bool {
	a = normOf(a, p)
	for len(a) >= len(g) {
		less := append(make(poly, len(a)-len(g)), g...)
		for i := range a {
			a[i] = minus(a[i], times(a[len(less)-1], less[i], p), p)
			if i == len(a)-1 {
				a[i] = 0
			}
		}
		a = normOf(a, p)
	}
	return len(a) == 0
}

// highest is the polynomial of the highest degree, with 1 as its highest coefficient, among all of up to n coefficients, that divides both.
func highest(p uint64, n int, a, b poly) poly {
	for deg := n - 1; deg >= 0; deg-- {
		for _, l := range allOf(p, deg) {
			if g := append(l, 1); divides(g, a, p) && divides(g, b, p) {
				return g
			}
		}
	}
	return nil
}

func TestGcdOfAllSmallPolynomials(t *testing.T) { // P9.2: held against every polynomial that might divide both
	for p, n := range map[uint64]int{2: 5, 3: 4, 5: 3} {
		f := fieldOf(t, p)
		for _, a := range allOf(p, n) {
			for _, b := range allOf(p, n) {
				want := highest(p, n, a, b)
				if len(normOf(a, p)) == 0 && len(normOf(b, p)) == 0 {
					want = nil
				}
				if got := f.Gcd(a, b); !slices.Equal(got, want) {
					t.Errorf("modulo %d: Gcd of %d and %d: got %d, want %d", p, a, b, got, want)
				}
				wantExt(t, f, a, b)
			}
		}
	}
}

// wantExt holds what Ext answers against all that it is to be.
func wantExt(t *testing.T, f *upoly.Field, a, b poly) {
	t.Helper()
	p := f.P()
	g, s, u := f.Ext(a, b)
	wantPoly(t, "g of Ext", p, g, f.Gcd(a, b))
	wantPoly(t, "s of Ext", p, s, normOf(s, p))
	wantPoly(t, "t of Ext", p, u, normOf(u, p))
	wantPoly(t, "g of Ext, as it comes of both", p, sumOf(productOf(s, a, p), productOf(u, b, p), p), g)
	degA, degB := len(normOf(a, p))-1, len(normOf(b, p))-1
	var fits bool
	switch {
	case degB < 0 && degA < 0:
		fits = len(g) == 0 && len(s) == 0 && len(u) == 0
	case degB < 0:
		fits = len(s) == 1 && len(u) == 0
	case len(g)-1 == degB:
		fits = len(s) == 0 && len(u) == 1
	default:
		fits = len(s)-1 < degB-(len(g)-1) && len(u)-1 < degA-(len(g)-1)
	}
	if !fits {
		t.Errorf("modulo %d: Ext of %d and %d: got %d, %d, %d", p, short(a), short(b), short(g), short(s), short(u))
	}
}

func TestGcdAndExt(t *testing.T) { // P9.2
	cases := []struct {
		p             uint64
		a, b, g, s, t poly
	}{
		{7, poly{6, 0, 1}, poly{1, 1}, poly{1, 1}, nil, poly{1}}, {7, poly{1, 1}, poly{6, 0, 1}, poly{1, 1}, poly{1}, nil}, {7, poly{0, 1}, poly{1, 1}, poly{1}, poly{6}, poly{1}},
		{7, nil, nil, nil, nil, nil}, {7, poly{7, 0}, poly{14}, nil, nil, nil}, {7, nil, poly{3}, poly{1}, nil, poly{5}}, {7, poly{3}, nil, poly{1}, poly{5}, nil}, {7, poly{3}, poly{2}, poly{1}, nil, poly{4}},
		{7, poly{0, 2}, nil, poly{0, 1}, poly{4}, nil}, {7, nil, poly{0, 2}, poly{0, 1}, nil, poly{4}}, {7, poly{2, 2}, poly{3, 3}, poly{1, 1}, nil, poly{5}}, {7, poly{3, 3}, poly{2, 2}, poly{1, 1}, nil, poly{4}},
		{7, poly{0, 2}, poly{3}, poly{1}, nil, poly{5}}, {7, poly{3}, poly{0, 2}, poly{1}, poly{5}, nil}, {7, poly{7, 9, 14}, poly{0, 0, 10, 7}, poly{0, 1}, poly{4}, nil},
		{2, poly{1, 0, 1}, poly{1, 0, 0, 1}, poly{1, 1}, poly{0, 1}, poly{1}}, {greatest, poly{0, 1}, poly{greatest - 1, 1}, poly{1}, poly{1}, poly{greatest - 1}},
	}
	for _, c := range cases {
		f := fieldOf(t, c.p)
		g, s, u := f.Ext(c.a, c.b)
		wantPoly(t, "g of Ext", c.p, g, c.g)
		wantPoly(t, "s of Ext", c.p, s, c.s)
		wantPoly(t, "t of Ext", c.p, u, c.t)
		wantPoly(t, "Gcd", c.p, f.Gcd(c.a, c.b), c.g)
		wantExt(t, f, c.a, c.b)
	}
}

func TestGcdOfMultiples(t *testing.T) { // P9.2: of polynomials that have no divisor in common, and of their multiples
	s := source(22)
	for _, p := range primes() {
		f := fieldOf(t, p)
		for range 60 {
			a, b, c := s.words(s.below(12)), s.words(s.below(12)), s.words(s.below(12))
			wantExt(t, f, a, b)
			a, b = productOf(a, c, p), productOf(b, c, p)
			wantExt(t, f, a, b)
			g := f.Gcd(a, b)
			if len(a)+len(b) > 0 && (!divides(g, a, p) || !divides(g, b, p) || !divides(f.Monic(c), g, p)) {
				t.Errorf("modulo %d: Gcd of %d and %d, multiples of %d: got %d", p, a, b, c, g)
			}
		}
	}
}

func TestGcdOfLongPolynomials(t *testing.T) { // P9.2: by their roots, which are known
	s := source(23)
	for _, p := range []uint64{65537, 998244353, greatest} {
		f := fieldOf(t, p)
		for _, n := range []int{10, 100, 200} {
			both := fromRoots(f, 0, n)
			a := productOf(both, fromRoots(f, n, n), p)
			b := productOf(productOf(both, fromRoots(f, 2*n, n+3), p), poly{s.word() | 1}, p)
			wantPoly(t, "Gcd", p, f.Gcd(a, b), both)
			wantExt(t, f, a, b)
			wantExt(t, f, b, a)
		}
	}
}

// fromRoots is the product of x less each of so many numbers, from a first one on.
func fromRoots(f *upoly.Field, first, many int) poly {
	product := poly{1}
	for i := range many {
		product = productOf(product, poly{minus(0, uint64(first+i), f.P()), 1}, f.P())
	}
	return product
}

func wantPowMod(t *testing.T, f *upoly.Field, a poly, n uint64, b, want poly) {
	t.Helper()
	got, err := f.PowMod(a, n, b)
	if err != api.OK || !slices.Equal(got, want) {
		t.Errorf("modulo %d: PowMod of %d to the %dth, by %d: got %d, error %d, want %d", f.P(), short(a), n, short(b), short(got), int(err), short(want))
	}
}

func TestPowMod(t *testing.T) { // P9.3
	cases := []struct {
		p    uint64
		a    poly
		n    uint64
		b    poly
		want poly
	}{
		{7, poly{0, 1}, 7, poly{1, 0, 1}, poly{0, 6}}, {7, poly{0, 1}, 0, poly{1, 0, 1}, poly{1}}, {7, poly{0, 1}, 0, poly{3}, nil}, {7, poly{0, 1}, 49, poly{1, 0, 1}, poly{0, 1}},
		{7, nil, 0, poly{0, 1}, poly{1}}, {7, nil, 0, poly{5}, nil}, {7, nil, 1, poly{0, 1}, nil}, {7, nil, math.MaxUint64, poly{0, 1}, nil}, {7, poly{5}, 1, poly{0, 1}, poly{5}},
		{7, poly{5, 1}, 1, poly{0, 0, 1}, poly{5, 1}}, {7, poly{5, 1, 9, 9}, 1, poly{0, 0, 1}, poly{5, 1}}, {7, poly{1, 1}, 2, poly{0, 0, 0, 1}, poly{1, 2, 1}}, {7, poly{0, 1}, 3, poly{0, 0, 0, 2}, nil},
		{7, poly{3}, math.MaxUint64, poly{0, 1}, poly{6}}, {7, poly{1, 2, 3}, 5, poly{4, 7, 14}, nil}, {7, poly{8}, math.MaxUint64, poly{0, 0, 8, 7}, poly{1}},
		{2, poly{0, 1}, 3, poly{1, 1, 1}, poly{1}}, {2, poly{1, 1}, math.MaxUint64, poly{1, 1, 1}, poly{1}}, {greatest, poly{greatest - 1}, math.MaxUint64, poly{0, 1}, poly{greatest - 1}},
	}
	for _, c := range cases {
		wantPowMod(t, fieldOf(t, c.p), c.a, c.n, c.b, c.want)
	}
}

func TestPowModIsTakenTimesItself(t *testing.T) { // P9.3
	s := source(24)
	for _, p := range primes() {
		f := fieldOf(t, p)
		for _, b := range []poly{{lead}, s.ofDeg(1), s.ofDeg(2), s.ofDeg(5), append(s.words(9), lead)} {
			for _, a := range []poly{nil, {1}, {0, 1}, s.words(3), s.words(7), s.words(30)} {
				_, want, _ := f.DivMod(poly{1}, b)
				for n := range uint64(20) {
					wantPowMod(t, f, a, n, b, want)
					_, want, _ = f.DivMod(productOf(want, a, p), b)
				}
			}
		}
	}
}

func TestPowModAtRoots(t *testing.T) { // P9.3: of great powers, by values, where the divisor is 0
	s := source(25)
	for _, p := range []uint64{97, 998244353, greatest} {
		f := fieldOf(t, p)
		for _, many := range []int{1, 2, 10, 70, 90} {
			b, a := fromRoots(f, 3, many), s.words(50)
			for _, n := range []uint64{1, 2, 1000, p - 1, p, 1 << 63, math.MaxUint64 - 1, math.MaxUint64} {
				got, err := f.PowMod(a, n, b)
				if err != api.OK || len(got) > many {
					t.Fatalf("modulo %d: PowMod to the %dth: got %d coefficients, error %d", p, n, len(got), int(err))
				}
				for x := uint64(3); x < uint64(3+many); x++ {
					if y, want := valueOf(got, x, p), power(valueOf(a, x, p), n, p); y != want {
						t.Fatalf("modulo %d: PowMod to the %dth by %d roots: at %d got %d, want %d", p, n, many, x, y, want)
					}
				}
			}
		}
	}
}
