package multi_test

import (
	"testing"

	"vinculum/api"
	"vinculum/bigint"
	"vinculum/heap"
	"vinculum/mpoly"
	"vinculum/multi"
)

// wide is n terms of numbers of so many bits, with exponents below a number.
func (s *source) wide(t *testing.T, r api.Ring, n, bits, below int) mpoly.Poly {
	t.Helper()
	l := s.terms(n, len(r.Vars), below)
	for i := range l {
		x := power(t, 2, bits-1).Add(power(t, 3, bits/2).Mul(bigint.Of(s.below(1 << 30))))
		if s.below(2) == 0 {
			x = x.Neg()
		}
		l[i].C = x
	}
	return polyOf(t, r, l)
}

func TestWhateverIsAnsweredIsTheProduct(t *testing.T) { // P18.5: whichever way, whichever primes
	s := source(51)
	taken := map[int]int{}
	for range 150 {
		r := rings()[s.below(len(rings()))]
		bits := 1 + s.below(400)
		a, b := s.wide(t, r, 1+s.below(60), bits, 1+s.below(8)), s.wide(t, r, 1+s.below(60), bits, 1+s.below(8))
		want := fine(t)(a.Mul(b))
		for way := range 5 {
			for range 2 {
				got, err := multi.Mul(a, b, way, s.word()>>(1+s.below(62)))
				if err == api.OK {
					wantSame(t, "what a way answers", got, want)
					taken[way]++
				} else if way <= byHeap {
					t.Errorf("the way %d, over %v: error %d", way, r, int(err))
				}
			}
		}
	}
	for way := range 5 {
		if taken[way] < 20 {
			t.Errorf("too few of each way: %v", taken)
		}
	}
}

func TestTheSameByAllPrimes(t *testing.T) { // P18.5
	s := source(52)
	for _, order := range termOrders() {
		r := ring(0, order, 3)
		a, b := s.wide(t, r, 40, 100, 4), s.wide(t, r, 30, 150, 4)
		want := fine(t)(heap.Mul(a, b))
		for range 60 {
			below := s.word() >> (1 + s.below(53)) // 300 bits, and more, have primes below 500
			if below > 500 {
				wantSame(t, "the product by primes", fine(t)(multi.ByPrimes(a, b, below)), want)
			}
		}
	}
}

// ownPairs are such of which each of one's own ways is taken, and such that heap.Mul has an error of.
func ownPairs(t *testing.T) [][2]mpoly.Poly {
	t.Helper()
	s := source(53)
	var l [][2]mpoly.Poly
	for _, r := range rings() {
		high, great := s.poly(t, r, 3, mostExp), s.wide(t, r, 70, 150, 200)
		l = append(l, [2]mpoly.Poly{high, high}, [2]mpoly.Poly{great, s.wide(t, r, 80, 150, 70)})
		all := append(samples(t, &s, r), high, great, number(t, ring(5, api.Lex, 1), 1), mpoly.Poly{})
		for range 12 {
			l = append(l, [2]mpoly.Poly{all[s.below(len(all))], all[s.below(len(all))]})
		}
	}
	for _, p := range []uint64{0, 7} {
		r := ring(p, api.GrLex, 2)
		great := ofBits(t, 130)
		l = append(l, [2]mpoly.Poly{filled(t, r, 2001, great), filled(t, r, 2000, great)}, [2]mpoly.Poly{filled(t, r, 500, great), polyOf(t, r, row(300, 0, 1, 1, 2))}, [2]mpoly.Poly{filled(t, r, 100, great), made(t, r, list{1, mostExp, 0})})
	}
	return l
}

func TestOnesOwnChoiceHasNoOtherErrors(t *testing.T) { // P18.5
	taken := map[int]int{}
	for _, pair := range ownPairs(t) {
		a, b := pair[0], pair[1]
		got, err := multi.Mul(a, b, auto, 0)
		want, e := heap.Mul(a, b)
		taken[multi.Choose(a, b)]++
		if err != api.OK && err != e {
			t.Errorf("one's own choice, over %v: error %d, heap.Mul has %d", a.Ring(), int(err), int(e))
		}
		if err == api.OK && e == api.OK {
			wantSame(t, "one's own choice", got, want)
		}
	}
	if taken[byHeap] < 100 || taken[byKron] < 50 || taken[byCrt] < 8 {
		t.Errorf("too few of each: %v", taken)
	}
}

func TestOnesOwnChoiceTakesMore(t *testing.T) { // P18.3: packed there is no limit of pairs
	r := ring(7, api.Lex, 1)
	a := filled(t, r, 2001, bigint.Of(1))
	if _, err := heap.Mul(a, a); err != api.ErrLimit {
		t.Errorf("heap.Mul of 2001 by 2001 terms: error %d", int(err))
	}
	want := make([]mpoly.Term, 4001)
	for i := range want {
		want[i] = mpoly.Term{E: list{i}, C: bigint.Of(min(i+1, 4001-i))}
	}
	wantSame(t, "one's own choice", fine(t)(multi.Mul(a, a, auto, 0)), polyOf(t, r, want))
}

func TestProductsAreThoseOfARing(t *testing.T) { // T1
	s := source(54)
	for _, r := range rings() {
		if len(r.Vars) > 3 {
			continue
		}
		for way := range 5 {
			if way > byHeap && (way == byCrt) != (r.P == 0) {
				continue
			}
			for range 3 {
				ok := fine(t)
				mul := func(a, b mpoly.Poly) mpoly.Poly { return ok(multi.Mul(a, b, way, mostWord)) }
				a, b, c := s.poly(t, r, 6, 4), s.poly(t, r, 4, 3), s.poly(t, r, 5, 4)
				wantSame(t, "the other way about", mul(a, b), mul(b, a))
				wantSame(t, "of three", mul(mul(a, b), c), mul(a, mul(b, c)))
				wantSame(t, "of a sum", mul(c, ok(a.Add(b))), ok(mul(c, a).Add(mul(c, b))))
				wantSame(t, "by 1", mul(a, number(t, r, 1)), a)
				wantSame(t, "by -1", mul(number(t, r, -1), a), a.Neg())
				wantSame(t, "a power of a product", ok(multi.Pow(mul(a, b), 2, way, mostWord)), mul(ok(multi.Pow(a, 2, way, mostWord)), ok(multi.Pow(b, 2, way, mostWord))))
				wantSame(t, "a power, and a power", ok(multi.Pow(a, 3, way, mostWord)), mul(ok(multi.Pow(a, 2, way, mostWord)), ok(multi.Pow(a, 1, way, mostWord))))
			}
		}
	}
}
