package kron_test

import (
	"slices"
	"testing"

	"vinculum/api"
	"vinculum/kron"
	"vinculum/mpoly"
	"vinculum/upoly"
)

// smallest is the base by which a packs to the lowest places.
func smallest(a mpoly.Poly) list {
	base := make(list, len(a.Ring().Vars))
	for v := range base {
		base[v] = max(0, a.In(v)) + 1
	}
	return base
}

func TestSpreadOfFlat(t *testing.T) { // P17.4
	s := source(41)
	for _, r := range rings() {
		for _, a := range append(samples(t, &s, r), s.poly(t, r, 2, 1<<(16>>(len(r.Vars)/2)))) {
			base := smallest(a)
			for isMore(base, mostPlaces/2) {
				a = fine(t)(mpoly.Make(r, a.Terms()[1:]))
				base = smallest(a)
			}
			for range 3 {
				f, err := kron.Flat(a, base)
				if err != api.OK {
					t.Fatalf("Flat by %d, over %v: error %d", base, r, int(err))
				}
				wantSame(t, "Spread of Flat", fine(t)(kron.Spread(r, f, base)), a)
				if len(base) == 0 {
					continue
				}
				if wider := slices.Clone(base); !isMore(wider, mostPlaces/2) {
					wider[s.below(len(wider))] += s.below(2)
					base = wider
				}
			}
		}
	}
}

func TestFlatOfSpread(t *testing.T) { // P17.4, the other way about: without what is 0 modulo P at the end
	s := source(42)
	for _, r := range rings() {
		field, _ := upoly.New(r.P)
		for range 8 {
			base := make(list, len(r.Vars))
			for v := range base {
				base[v] = 1 + s.below(1+12>>(len(r.Vars)/3))
			}
			f := s.flat(s.below(int(productOf(base).Int64())+1)%3000, r.P)
			a, err := kron.Spread(r, f, base)
			g, e := kron.Flat(a, base)
			if err != api.OK || e != api.OK || !slices.Equal(g, field.Norm(f)) {
				t.Errorf("over %v by %d, of %d: errors %d and %d, or something else", r, base, len(f), int(err), int(e))
			}
		}
	}
}

func TestFlatOfSumsAndProducts(t *testing.T) { // P17.4: as those of one variable, by the Bases
	s := source(43)
	many := map[int]int{}
	for _, r := range rings() {
		field, _ := upoly.New(r.P)
		for range 10 {
			a, b := s.poly(t, r, 1+s.below(20), 2+s.below(2)), s.poly(t, r, 1+s.below(3), 2)
			base := basesOf(a, b)
			if a.Len() == 0 || b.Len() == 0 || isMore(base, 6561) {
				continue
			}
			flat := func(a mpoly.Poly) upoly.Poly {
				f, err := kron.Flat(a, base)
				if err != api.OK {
					t.Fatalf("Flat by %d: error %d", base, int(err))
				}
				return f
			}
			product, _ := field.Mul(flat(a), flat(b), 1)
			if !slices.Equal(flat(fine(t)(a.Add(b))), field.Add(flat(a), flat(b))) || !slices.Equal(flat(fine(t)(a.Mul(b))), product) {
				t.Errorf("over %v by %d: the sum or the product is another one when it is flat", r, base)
			}
			many[len(r.Vars)]++
		}
	}
	if many[1] < 50 || many[2] < 50 || many[3] < 50 || many[8] < 20 {
		t.Errorf("too few of each: %v", many)
	}
}

// narrow is polynomials of few of the variables.
func (s *source) narrow(t *testing.T, r api.Ring) []mpoly.Poly {
	t.Helper()
	var l []mpoly.Poly
	for range 20 {
		terms := s.terms(2+s.below(4), len(r.Vars), 3)
		for _, x := range terms {
			for v := range x.E {
				if len(r.Vars) > 3 && v%3 != 1 {
					x.E[v] = 0
				}
			}
		}
		l = append(l, polyOf(t, r, terms))
	}
	return l
}

// eachThree does something with polynomials of several lengths, three by three, over all rings, whose product both ways take.
func eachThree(t *testing.T, do func(r api.Ring, a, b, c mpoly.Poly)) {
	t.Helper()
	s := source(44)
	for _, r := range rings() {
		all := append(samples(t, &s, r), s.narrow(t, r)...)
		for range 60 {
			a, b, c := all[s.below(len(all))], all[s.below(len(all))], all[s.below(len(all))]
			if isMore(smallest(a), 2500) || isMore(basesOf(a, b), 2500) || isMore(basesOf(b, c), 2500) {
				continue
			}
			sum, product := fine(t)(a.Add(b)), fine(t)(a.Mul(b))
			if other := fine(t)(b.Mul(c)); !isMore(basesOf(sum, c), 2500) && !isMore(basesOf(product, c), 2500) && !isMore(basesOf(a, other), 2500) && !isMore(basesOf(a, c), 2500) {
				do(r, a, b, c)
			}
		}
	}
}

func TestProductsAreThoseTermByTerm(t *testing.T) { // P17.4: and do not hang on order
	many := map[int]int{}
	eachThree(t, func(r api.Ring, a, b, c mpoly.Poly) {
		ok := fine(t)
		want := ok(a.Mul(b))
		for name, way := range ways() {
			wantSame(t, name+", as mpoly's", ok(way.mul(a, b)), want)
			wantSame(t, name+" the other way about", ok(way.mul(b, a)), want)
			wantSame(t, name+" of three", ok(way.mul(ok(way.mul(a, b)), c)), ok(way.mul(a, ok(way.mul(b, c)))))
			wantSame(t, name+" of a sum", ok(way.mul(c, ok(a.Add(b)))), ok(ok(way.mul(c, a)).Add(ok(way.mul(b, c)))))
			wantSame(t, name+" by 1", ok(way.mul(number(t, r, 1), a)), a)
			wantSame(t, name+" by -1", ok(way.mul(a, number(t, r, -1))), a.Neg())
		}
		if a.Len() > 1 && b.Len() > 1 && c.Len() > 1 {
			many[len(r.Vars)]++
		}
	})
	if many[1] < 50 || many[2] < 50 || many[3] < 50 || many[8] < 20 {
		t.Errorf("too few of each: %v", many)
	}
}

func TestTheSameInEachOrderOfTerms(t *testing.T) { // P17.4: the terms are the same ones, falling otherwise
	s := source(45)
	for _, p := range []uint64{2, 7, greatest} {
		x, y := s.terms(25, 3, 5), s.terms(25, 3, 5)
		want := plainOf(polyOf(t, ring(p, api.Lex, 3), x)).times(plainOf(polyOf(t, ring(p, api.Lex, 3), y)))
		for _, order := range termOrders() {
			r := ring(p, order, 3)
			a, b := polyOf(t, r, x), polyOf(t, r, y)
			for name, way := range ways() {
				got, err := way.mul(a, b)
				wantPoly(t, name, r, got, err, want)
			}
			f, err := kron.Flat(a, list{5, 5, 5})
			g, e := kron.Flat(polyOf(t, ring(p, api.Lex, 3), x), list{5, 5, 5})
			if !slices.Equal(f, g) || err != api.OK || e != api.OK {
				t.Errorf("Flat modulo %d by the order %d is another one", p, order)
			}
		}
	}
}
