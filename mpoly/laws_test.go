package mpoly_test

import (
	"slices"
	"testing"

	"vinculum/api"
	"vinculum/bigint"
	"vinculum/mpoly"
)

// fine is what a call answers, where there is to be no error.
func fine(t *testing.T) func(a mpoly.Poly, err api.Errno) mpoly.Poly {
	return func(a mpoly.Poly, err api.Errno) mpoly.Poly {
		t.Helper()
		if err != api.OK {
			t.Fatalf("error %d", int(err))
		}
		return a
	}
}

func wantSame(t *testing.T, what string, got, want mpoly.Poly) {
	t.Helper()
	if !got.Is(want) || !want.Is(got) {
		t.Errorf("%s, over %v: got %d terms, want %d, or others", what, want.Ring(), got.Len(), want.Len())
	}
}

// eachThree does something with polynomials of several lengths, three by three, over all rings.
func eachThree(t *testing.T, do func(r api.Ring, a, b, c mpoly.Poly)) {
	t.Helper()
	s := source(31)
	for _, r := range rings() {
		all := samples(t, &s, r)
		any := func() mpoly.Poly { return all[s.below(len(all))] }
		for range 25 {
			do(r, any(), any(), any())
		}
	}
}

func TestSumsAreARing(t *testing.T) { // P14.5
	eachThree(t, func(r api.Ring, a, b, c mpoly.Poly) {
		ok, none := fine(t), made(t, r)
		sum := ok(a.Add(b))
		wantSame(t, "a sum the other way about", ok(b.Add(a)), sum)
		wantSame(t, "a sum of three", ok(sum.Add(c)), ok(a.Add(ok(b.Add(c)))))
		wantSame(t, "a sum with 0", ok(a.Add(none)), a)
		wantSame(t, "a sum, less a summand", ok(sum.Sub(b)), a)
		wantSame(t, "a polynomial less itself", ok(a.Sub(a)), none)
		wantSame(t, "a polynomial and 0 less it", ok(a.Add(a.Neg())), none)
		wantSame(t, "0 less it", ok(none.Sub(a)), a.Neg())
		wantSame(t, "0 less it, twice", a.Neg().Neg(), a)
		wantSame(t, "a difference the other way about", ok(a.Sub(b)).Neg(), ok(b.Sub(a)))
	})
}

func TestProductsAreARing(t *testing.T) { // P14.5
	eachThree(t, func(r api.Ring, a, b, c mpoly.Poly) {
		ok, none := fine(t), made(t, r)
		one := polyOf(t, r, []mpoly.Term{{E: make(list, len(r.Vars)), C: bigint.Of(1)}})
		product := ok(a.Mul(b))
		wantSame(t, "a product the other way about", ok(b.Mul(a)), product)
		wantSame(t, "a product with 1", ok(a.Mul(one)), a)
		wantSame(t, "a product with 0", ok(a.Mul(none)), none)
		wantSame(t, "a product with -1", ok(a.Mul(one.Neg())), a.Neg())
		wantSame(t, "a product with a sum", ok(c.Mul(ok(a.Add(b)))), ok(ok(c.Mul(a)).Add(ok(c.Mul(b)))))
		if a.Len()*b.Len()*c.Len() < 2000 {
			wantSame(t, "a product of three", ok(product.Mul(c)), ok(a.Mul(ok(b.Mul(c)))))
		}
	})
}

func TestDegreesOfProducts(t *testing.T) { // P14.5: those of both together
	eachThree(t, func(r api.Ring, a, b, _ mpoly.Poly) {
		product := fine(t)(a.Mul(b))
		if a.Len() == 0 || b.Len() == 0 {
			if product.Len() != 0 {
				t.Errorf("over %v: 0 times a polynomial has %d terms", r, product.Len())
			}
			return
		}
		if product.Len() == 0 || product.Deg() != a.Deg()+b.Deg() {
			t.Errorf("over %v: degrees %d and %d come to %d", r, a.Deg(), b.Deg(), product.Deg())
		}
		for v := range r.Vars {
			if product.In(v) != a.In(v)+b.In(v) {
				t.Errorf("over %v: In(%d) %d and %d come to %d", r, v, a.In(v), b.In(v), product.In(v))
			}
		}
		// So do the first terms, and the last ones.
		x, y, z := a.Terms(), b.Terms(), product.Terms()
		first, last := fine(t)(polyOf(t, r, x[:1]).Mul(polyOf(t, r, y[:1]))), fine(t)(polyOf(t, r, x[len(x)-1:]).Mul(polyOf(t, r, y[len(y)-1:])))
		wantSame(t, "the first term of a product", polyOf(t, r, z[:1]), first)
		wantSame(t, "the last term of a product", polyOf(t, r, z[len(z)-1:]), last)
	})
}

func TestWhatIsMadeOfTerms(t *testing.T) { // P14.5: the polynomial, in whichever order they are
	eachThree(t, func(r api.Ring, a, b, _ mpoly.Poly) {
		for _, x := range []mpoly.Poly{a, fine(t)(a.Add(b)), fine(t)(a.Mul(b)), a.Neg()} {
			l := x.Terms()
			wantSame(t, "what is made of Terms", polyOf(t, x.Ring(), l), x)
			slices.Reverse(l)
			wantSame(t, "what is made of Terms, turned about", polyOf(t, x.Ring(), l), x)
			for _, y := range l {
				if got := x.At(y.E); got.Cmp(y.C) != 0 || got.Sign() == 0 {
					t.Errorf("over %v: At %d: got %s, want %s", r, y.E, got.Print(), y.C.Print())
				}
			}
		}
	})
}

func TestScaleIsAProduct(t *testing.T) { // P14.3, P14.4
	eachThree(t, func(r api.Ring, a, b, _ mpoly.Poly) {
		sum := made(t, r)
		for _, x := range b.Terms() {
			scaled := fine(t)(a.Scale(x))
			wantSame(t, "Scale", scaled, fine(t)(a.Mul(polyOf(t, r, []mpoly.Term{x}))))
			sum = fine(t)(sum.Add(scaled))
		}
		wantSame(t, "a product, as a sum of Scales", fine(t)(a.Mul(b)), sum)
	})
}

func TestPowersAmongOneAnother(t *testing.T) { // P14.4
	s := source(32)
	for _, r := range rings() {
		ok := fine(t)
		for range 4 {
			a, b := s.poly(t, r, 3, 3), s.poly(t, r, 2, 3)
			wantSame(t, "powers that are multiplied", ok(ok(a.Pow(2)).Mul(ok(a.Pow(3)))), ok(a.Pow(5)))
			wantSame(t, "a power of a power", ok(ok(a.Pow(2)).Pow(3)), ok(a.Pow(6)))
			wantSame(t, "a power of a product", ok(ok(a.Mul(b)).Pow(3)), ok(ok(a.Pow(3)).Mul(ok(b.Pow(3)))))
			if r.P == 2 || r.P == 7 {
				p := int(r.P)
				wantSame(t, "a sum to the Pth", ok(ok(a.Add(b)).Pow(p)), ok(ok(a.Pow(p)).Add(ok(b.Pow(p)))))
			}
		}
	}
}
