package upoly_test

import (
	"slices"
	"testing"

	"vinculum/api"
	"vinculum/upoly"
)

func mulOf(t *testing.T, f *upoly.Field, a, b poly, way int) poly {
	t.Helper()
	product, err := f.Mul(a, b, way)
	if err != api.OK {
		t.Fatalf("Mul: error %d", int(err))
	}
	return product
}

// eachThree does something with polynomials of several lengths, three by three, over all fields.
func eachThree(t *testing.T, do func(f *upoly.Field, a, b, c poly)) {
	t.Helper()
	s := source(31)
	for _, p := range primes() {
		f := fieldOf(t, p)
		for range 25 {
			do(f, s.words(s.below(12)), s.words(s.below(12)), s.words(s.below(12)))
		}
		do(f, s.words(150), s.words(70), s.words(100))
		do(f, s.words(80), s.words(400), s.words(65))
	}
}

func TestSumsAreARing(t *testing.T) { // P9.4
	eachThree(t, func(f *upoly.Field, a, b, c poly) {
		p := f.P()
		wantPoly(t, "a sum the other way about", p, f.Add(b, a), f.Add(a, b))
		wantPoly(t, "a sum of three", p, f.Add(f.Add(a, b), c), f.Add(a, f.Add(b, c)))
		wantPoly(t, "a sum with 0", p, f.Add(a, nil), f.Norm(a))
		wantPoly(t, "a sum, less a summand", p, f.Sub(f.Add(a, b), b), f.Norm(a))
		wantPoly(t, "a difference the other way about", p, f.Sub(nil, f.Sub(a, b)), f.Sub(b, a))
		wantPoly(t, "a polynomial less itself", p, f.Sub(a, a), nil)
	})
}

func TestProductsAreARing(t *testing.T) { // P9.4: whichever way
	eachThree(t, func(f *upoly.Field, a, b, c poly) {
		p := f.P()
		for way := range 4 {
			product := mulOf(t, f, a, b, way)
			wantPoly(t, "a product the other way about", p, mulOf(t, f, b, a, way), product)
			wantPoly(t, "a product of three", p, mulOf(t, f, product, c, way), mulOf(t, f, a, mulOf(t, f, b, c, way), way))
			wantPoly(t, "a product with a sum", p, mulOf(t, f, f.Add(a, b), c, way), f.Add(mulOf(t, f, a, c, way), mulOf(t, f, b, c, way)))
			wantPoly(t, "a product with 1", p, mulOf(t, f, a, poly{1}, way), f.Norm(a))
			wantPoly(t, "a product with 0", p, mulOf(t, f, a, nil, way), nil)
			if f.Deg(a) >= 0 && f.Deg(b) >= 0 && f.Deg(product) != f.Deg(a)+f.Deg(b) {
				t.Errorf("modulo %d: got a product of the degree %d of such of %d and %d", p, f.Deg(product), f.Deg(a), f.Deg(b))
			}
		}
	})
}

func TestWhatIsLeftHasALowerDegree(t *testing.T) { // P9.4
	eachThree(t, func(f *upoly.Field, a, b, c poly) {
		if f.Deg(b) < 0 {
			return
		}
		p := f.P()
		q, r, err := f.DivMod(a, b)
		if err != api.OK || f.Deg(r) >= f.Deg(b) {
			t.Fatalf("modulo %d: DivMod of degrees %d and %d: got %d, left %d, error %d", p, f.Deg(a), f.Deg(b), f.Deg(q), f.Deg(r), int(err))
		}
		wantPoly(t, "the quotient, multiplied back", p, f.Add(mulOf(t, f, q, b, 0), r), f.Norm(a))
		// A multiple of b that is added changes the quotient alone.
		more, same, _ := f.DivMod(f.Add(a, mulOf(t, f, b, c, 0)), b)
		wantPoly(t, "the quotient of a and more", p, more, f.Add(q, c))
		wantPoly(t, "what is left of a and more", p, same, r)
	})
}

func TestDivisorsDivideAndComeOfBoth(t *testing.T) { // P9.4
	eachThree(t, func(f *upoly.Field, a, b, c poly) {
		p := f.P()
		g, s, u := f.Ext(a, b)
		wantPoly(t, "g", p, f.Add(mulOf(t, f, s, a, 0), mulOf(t, f, u, b, 0)), g)
		wantPoly(t, "Gcd the other way about", p, f.Gcd(b, a), g)
		wantPoly(t, "Gcd of multiples", p, f.Gcd(mulOf(t, f, a, c, 0), mulOf(t, f, b, c, 0)), f.Monic(mulOf(t, f, g, c, 0)))
		wantPoly(t, "Gcd of a and a multiple of it", p, f.Gcd(a, mulOf(t, f, a, c, 0)), f.Monic(a))
		if len(g) == 0 {
			return
		}
		for _, l := range []poly{a, b} {
			if _, r, err := f.DivMod(l, g); len(r) != 0 || err != api.OK {
				t.Errorf("modulo %d: %d does not divide %d", p, short(g), short(l))
			}
		}
	})
}

func TestValuesOfSumsAndProducts(t *testing.T) { // P9.4
	places := source(32)
	eachThree(t, func(f *upoly.Field, a, b, c poly) {
		p := f.P()
		x := places.word()
		for way := range 4 {
			if got, want := f.Eval(mulOf(t, f, a, b, way), x), times(f.Eval(a, x), f.Eval(b, x), p); got != want {
				t.Errorf("modulo %d: a product at %d: got %d, want %d", p, x, got, want)
			}
		}
		if got, want := f.Eval(f.Add(a, b), x), plus(f.Eval(a, x), f.Eval(b, x), p); got != want {
			t.Errorf("modulo %d: a sum at %d: got %d, want %d", p, x, got, want)
		}
		// What is left by x less a number is the value there.
		_, r, _ := f.DivMod(a, poly{minus(0, x, p), 1})
		wantPoly(t, "what is left by x less a number", p, r, f.Norm(poly{f.Eval(a, x)}))
	})
}

func TestDerivativesOfSumsAndProducts(t *testing.T) { // P9.4
	eachThree(t, func(f *upoly.Field, a, b, c poly) {
		p := f.P()
		wantPoly(t, "the derivative of a sum", p, f.Derive(f.Add(a, b)), f.Add(f.Derive(a), f.Derive(b)))
		leibniz := f.Add(mulOf(t, f, f.Derive(a), b, 0), mulOf(t, f, a, f.Derive(b), 0))
		wantPoly(t, "the derivative of a product", p, f.Derive(mulOf(t, f, a, b, 0)), leibniz)
	})
}

func TestPowersOfSumsOfExponents(t *testing.T) { // P9.3, P9.4
	exponents := source(33)
	eachThree(t, func(f *upoly.Field, a, b, c poly) {
		if f.Deg(b) < 0 {
			return
		}
		m, n := exponents.word()>>1, exponents.word()>>1
		x, _ := f.PowMod(a, m, b)
		y, _ := f.PowMod(a, n, b)
		_, want, _ := f.DivMod(mulOf(t, f, x, y, 0), b)
		wantPowMod(t, f, a, m+n, b, want)
	})
}

func TestPowersToThePrime(t *testing.T) { // P9.3: over a field a sum to the pth is the sum of the pth powers
	eachThree(t, func(f *upoly.Field, a, b, c poly) {
		if f.Deg(b) < 0 {
			return
		}
		p := f.P()
		x, _ := f.PowMod(a, p, b)
		y, _ := f.PowMod(c, p, b)
		wantPowMod(t, f, f.Add(a, c), p, b, f.Add(x, y))
	})
}

func TestListsOfOnePolynomial(t *testing.T) { // P9.1 to P9.3: what is modulo p, and not 0 at the end, counts alone
	for name, call := range calls() {
		for _, p := range []uint64{2, 7, greatest} {
			f := fieldOf(t, p)
			for _, g := range gifts() {
				want := call(f, g)
				same := gift{slices.Clone(g.a), slices.Clone(g.b), g.n, g.way}
				for _, l := range []poly{same.a, same.b} {
					for i, x := range l {
						l[i] = x%p + p
					}
				}
				same.a, same.b = append(same.a, 0, p), append(same.b, p, 0, 0)
				if got := call(f, same); !got.matches(want) {
					t.Errorf("modulo %d: %s of %v: got %v, want %v", p, name, same, got, want)
				}
			}
		}
	}
}
