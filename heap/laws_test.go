package heap_test

import (
	"slices"
	"testing"

	"vinculum/api"
	"vinculum/heap"
	"vinculum/mpoly"
)

// eachThree does something with polynomials of several lengths, three by three, over all rings.
func eachThree(t *testing.T, do func(s *source, r api.Ring, a, b, c mpoly.Poly)) {
	t.Helper()
	s := source(51)
	for _, r := range rings() {
		all := samples(t, &s, r)
		any := func() mpoly.Poly { return all[s.below(len(all))] }
		for range 20 {
			do(&s, r, any(), any(), any())
		}
	}
}

func TestProductsDoNotHangOnOrder(t *testing.T) { // P16.3
	eachThree(t, func(s *source, r api.Ring, a, b, c mpoly.Poly) {
		ok := fine(t)
		product := ok(heap.Mul(a, b))
		wantSame(t, "a product the other way about", ok(heap.Mul(b, a)), product)
		if a.Len()*b.Len()*c.Len() < 2000 {
			wantSame(t, "a product of three", ok(heap.Mul(product, c)), ok(heap.Mul(a, ok(heap.Mul(b, c)))))
		}
		wantSame(t, "a product with a sum", ok(heap.Mul(c, ok(heap.Sum(r, polys{a, b})))), ok(heap.Dot(polys{c, c}, polys{a, b})))
		wantSame(t, "a product with 1", ok(heap.Mul(number(t, r, 1), a)), a)
		wantSame(t, "a product with -1", ok(heap.Mul(a, number(t, r, -1))), a.Neg())
	})
}

func TestDotsDoNotHangOnOrder(t *testing.T) { // P16.3
	eachThree(t, func(s *source, r api.Ring, a, b, c mpoly.Poly) {
		ok := fine(t)
		x, y := polys{a, b, c, a}, polys{b, c, a, a}
		want := made(t, r)
		for i := range x {
			want = ok(want.Add(ok(x[i].Mul(y[i]))))
		}
		wantSame(t, "Dot, as mpoly's products and sums", ok(heap.Dot(x, y)), want)
		wantSame(t, "Dot the other way about", ok(heap.Dot(y, x)), want)
		places := shuffled(s, list{0, 1, 2, 3})
		var other, another polys
		for _, i := range places {
			other, another = append(other, x[i]), append(another, y[i])
		}
		wantSame(t, "Dot in another order", ok(heap.Dot(other, another)), want)
		var products polys
		for _, i := range places {
			products = append(products, ok(heap.Mul(x[i], y[i])))
		}
		wantSame(t, "Sum of the products", ok(heap.Sum(r, products)), want)
	})
}

func TestSumsDoNotHangOnOrder(t *testing.T) { // P16.3
	eachThree(t, func(s *source, r api.Ring, a, b, c mpoly.Poly) {
		ok := fine(t)
		l := polys{a, b, c, b, made(t, r), a.Neg(), c}
		want := made(t, r)
		for _, x := range l {
			want = ok(want.Add(x))
		}
		wantSame(t, "Sum, as mpoly's", ok(heap.Sum(r, l)), want)
		for range 3 {
			l = shuffled(s, l)
			wantSame(t, "Sum in another order", ok(heap.Sum(r, l)), want)
		}
		wantSame(t, "Sum of sums", ok(heap.Sum(r, polys{ok(heap.Sum(r, l[:3])), ok(heap.Sum(r, l[3:]))})), want)
	})
}

func TestTheSameInEachOrderOfTerms(t *testing.T) { // P16.3: the terms are the same ones, falling otherwise
	s := source(52)
	for _, p := range []uint64{0, 7} {
		x, y := s.terms(25, 3, 5), s.terms(25, 3, 5)
		want := plainOf(polyOf(t, ring(p, api.Lex, 3), x)).times(plainOf(polyOf(t, ring(p, api.Lex, 3), y)))
		for _, order := range termOrders() {
			r := ring(p, order, 3)
			got, err := heap.Mul(polyOf(t, r, x), polyOf(t, r, y))
			wantPoly(t, "Mul", r, got, err, want)
		}
	}
}

func TestWhatIsPoppedComesInTheOrder(t *testing.T) { // P16.3: of things that are all pushed ahead none comes behind one that it stands ahead of
	s := source(53)
	for name, order := range orders() {
		for _, below := range []int{3, 12, 60, 500} {
			h := heap.New(order)
			for i := range 150 {
				h.Push(thing{s.below(below), i})
			}
			var came []thing
			for x, is := h.Pop(); is; x, is = h.Pop() {
				came = append(came, x)
			}
			for i, x := range came {
				if slices.ContainsFunc(came[i+1:], func(y thing) bool { return order(y, x) }) {
					t.Fatalf("%s: %v came ahead of one that stands ahead of it: %v", name, x, came)
				}
			}
			if slices.SortFunc(came, func(x, y thing) int { return x.name - y.name }); len(came) != 150 || came[0].name != 0 || came[149].name != 149 || len(slices.Compact(came)) != 150 {
				t.Fatalf("%s: %d things came of 150", name, len(came))
			}
		}
	}
}
