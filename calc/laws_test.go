package calc_test

import (
	"math/big"
	"testing"

	"vinculum/api"
	"vinculum/bigint"
	"vinculum/calc"
	"vinculum/mpoly"
)

// eachPair does something with polynomials of several lengths, two by two, over all rings.
func eachPair(t *testing.T, do func(s *source, r api.Ring, a, b mpoly.Poly)) {
	t.Helper()
	s := source(51)
	for _, r := range rings() {
		all := samples(t, &s, r)
		any := func() mpoly.Poly { return all[s.below(len(all))] }
		for range 25 {
			do(&s, r, any(), any())
		}
	}
}

func valueOf(t *testing.T, a mpoly.Poly, l []bigint.Int) *big.Int {
	t.Helper()
	x, err := calc.Eval(a, l)
	if err != api.OK {
		t.Fatalf("Eval: error %d", int(err))
	}
	return toBig(x)
}

func TestValuesOfSumsAndProducts(t *testing.T) { // P15.5: those of the values
	eachPair(t, func(s *source, r api.Ring, a, b mpoly.Poly) {
		ok, l := fine(t), s.numbers(len(r.Vars))
		x, y := valueOf(t, a, l), valueOf(t, b, l)
		for what, c := range map[string]struct {
			of   mpoly.Poly
			want *big.Int
		}{"a sum": {ok(a.Add(b)), new(big.Int).Add(x, y)}, "a difference": {ok(a.Sub(b)), new(big.Int).Sub(x, y)}, "a product": {ok(a.Mul(b)), new(big.Int).Mul(x, y)}, "0 less it": {a.Neg(), new(big.Int).Neg(x)}} {
			if got := valueOf(t, c.of, l); got.Cmp(modulo(c.want, r)) != 0 {
				t.Errorf("the value of %s over %v: got %v, want %v", what, r, got, c.want)
			}
		}
	})
}

func TestDerivativesAreAsLeibnizSays(t *testing.T) { // P15.5
	eachPair(t, func(_ *source, r api.Ring, a, b mpoly.Poly) {
		ok := fine(t)
		for v := range r.Vars {
			da, db := ok(calc.Derive(a, v)), ok(calc.Derive(b, v))
			wantSame(t, "the derivative of a sum", ok(calc.Derive(ok(a.Add(b)), v)), ok(da.Add(db)))
			wantSame(t, "the derivative of a product", ok(calc.Derive(ok(a.Mul(b)), v)), ok(ok(da.Mul(b)).Add(ok(a.Mul(db)))))
			for w := range r.Vars {
				wantSame(t, "derivatives the other way about", ok(calc.Derive(da, w)), ok(calc.Derive(ok(calc.Derive(a, w)), v)))
			}
		}
	})
}

func TestPolynomialsAreContentTimesPrimitive(t *testing.T) { // P15.5: or 0 less that
	eachPair(t, func(_ *source, r api.Ring, a, b mpoly.Poly) {
		ok, none := fine(t), make(list, len(r.Vars))
		content, primitive := calc.Content(a), calc.Primitive(a)
		wantSame(t, "Primitive of Primitive", calc.Primitive(primitive), primitive)
		wantSame(t, "Primitive of 0 less it", calc.Primitive(a.Neg()), primitive)
		wantSame(t, "Primitive of a product", calc.Primitive(ok(a.Mul(b))), ok(primitive.Mul(calc.Primitive(b))))
		if product := calc.Content(ok(a.Mul(b))); product.Cmp(content.Mul(calc.Content(b))) != 0 {
			t.Errorf("over %v: the content of a product is %s", r, product.Print())
		}
		if r.P != 0 {
			return // by words of the promise that are of a field the content is 1, whatever it is divided by
		}
		if again := ok(primitive.Scale(mpoly.Term{E: none, C: content})); !again.Is(a) && !again.Neg().Is(a) {
			t.Errorf("over %v: content times primitive part is another polynomial", r)
		}
	})
}

func TestJoinOfPartsIsThePolynomial(t *testing.T) { // P15.5
	eachPair(t, func(s *source, r api.Ring, a, b mpoly.Poly) {
		for v := range r.Vars {
			for _, c := range []mpoly.Poly{a, fine(t)(a.Mul(b)), s.poly(t, r, 5, 3000)} {
				l, err := calc.Parts(c, v)
				if err != api.OK {
					t.Fatalf("Parts: error %d", int(err))
				}
				wantSame(t, "Join of Parts", fine(t)(calc.Join(r, v, l)), c)
			}
		}
	})
}

func TestPartsOfSums(t *testing.T) { // P15.4: each part is the sum of both
	eachPair(t, func(_ *source, r api.Ring, a, b mpoly.Poly) {
		for v := range r.Vars {
			x, _ := calc.Parts(a, v)
			y, _ := calc.Parts(b, v)
			z, _ := calc.Parts(fine(t)(a.Add(b)), v)
			for i, part := range z {
				want := made(t, r)
				for _, l := range [][]mpoly.Poly{x, y} {
					if i < len(l) {
						want = fine(t)(want.Add(l[i]))
					}
				}
				wantSame(t, "a part of a sum", part, want)
			}
		}
	})
}

func TestValuesOfSubst(t *testing.T) { // P15.2: those where the variable is b's value
	eachPair(t, func(s *source, r api.Ring, a, b mpoly.Poly) {
		if a.Len()*b.Len() > 100 || b.Len() > 3 {
			return
		}
		for v := range r.Vars {
			l := s.numbers(len(r.Vars))
			put := fine(t)(calc.Subst(a, v, b))
			other := append([]bigint.Int(nil), l...)
			other[v], _ = calc.Eval(b, l)
			if got, want := valueOf(t, put, l), valueOf(t, a, other); got.Cmp(want) != 0 {
				t.Errorf("the value of Subst over %v: got %v, want %v", r, got, want)
			}
		}
	})
}

func TestSubstOfSumsAndProducts(t *testing.T) { // P15.2
	s := source(52)
	for _, r := range rings() {
		ok := fine(t)
		for v := range r.Vars {
			a, c, b := s.poly(t, r, 4, 4), s.poly(t, r, 4, 4), s.poly(t, r, 2, 3)
			x, y := ok(calc.Subst(a, v, b)), ok(calc.Subst(c, v, b))
			wantSame(t, "Subst in a sum", ok(calc.Subst(ok(a.Add(c)), v, b)), ok(x.Add(y)))
			wantSame(t, "Subst in a product", ok(calc.Subst(ok(a.Mul(c)), v, b)), ok(x.Mul(y)))
		}
	}
}

func TestToOfSumsAndProducts(t *testing.T) { // P15.4: modulo a prime they are those of both
	eachPair(t, func(s *source, r api.Ring, a, b mpoly.Poly) {
		if r.P != 0 {
			return
		}
		ok := fine(t)
		for _, p := range []uint64{2, 7, greatest} {
			q := ring(p, api.GrLex, len(r.Vars))
			x, y := ok(calc.To(a, q)), ok(calc.To(b, q))
			wantSame(t, "To of a sum", ok(calc.To(ok(a.Add(b)), q)), ok(x.Add(y)))
			wantSame(t, "To of a product", ok(calc.To(ok(a.Mul(b)), q)), ok(x.Mul(y)))
			l := s.numbers(len(r.Vars))
			if got, want := valueOf(t, x, l), modulo(valueOf(t, a, l), q); got.Cmp(want) != 0 {
				t.Errorf("the value over %v: got %v, want %v", q, got, want)
			}
		}
		back := ok(calc.To(ok(calc.To(a, ring(0, api.GrevLex, len(r.Vars)))), r))
		wantSame(t, "To another order and back", back, a)
	})
}
