package multi_test

import (
	"math"
	"testing"

	"vinculum/api"
	"vinculum/bigint"
	"vinculum/heap"
	"vinculum/kron"
	"vinculum/mpoly"
	"vinculum/multi"
)

// The ways, by the numbers that the document gives them.
const (
	auto = iota
	byHeap
	byKron
	byBox
	byCrt
)

func wantWay(t *testing.T, what string, a, b mpoly.Poly, want int) {
	t.Helper()
	if got := multi.Choose(a, b); got != want {
		t.Errorf("Choose of %s: got %d, want %d", what, got, want)
	}
	if got := multi.Choose(b, a); got != want {
		t.Errorf("Choose of %s, the other way about: got %d, want %d", what, got, want)
	}
}

func TestWaysAreNumbered(t *testing.T) { // the chapter's list
	if multi.Auto != auto || multi.Heap != byHeap || multi.Kron != byKron || multi.Box != byBox || multi.Crt != byCrt {
		t.Errorf("the ways are %d, %d, %d, %d, %d", multi.Auto, multi.Heap, multi.Kron, multi.Box, multi.Crt)
	}
}

func TestChooseOverTheIntegers(t *testing.T) { // P18.3
	r := ring(0, api.GrLex, 2)
	cases := []struct{ n, m, bitsOfA, bitsOfB, want int }{
		// 64 terms are 6 bits.
		{64, 64, 125, 126, byCrt}, {64, 64, 125, 125, byHeap}, {64, 64, 250, 1, byCrt}, {64, 64, 249, 1, byHeap}, {64, 64, 1997, 1997, byCrt}, {64, 64, 1997, 1998, byHeap}, {64, 64, 3994, 1, byHeap}, {64, 64, 3993, 1, byCrt}, {64, 64, 1, 1, byHeap}, {64, 64, 10000, 10000, byHeap},
		{63, 65, 1000, 1000, byHeap}, {65, 64, 1000, 1000, byCrt}, {4095, 1, 1000, 1000, byHeap}, {4096, 1, 1000, 1000, byCrt}, {4096, 1, 200, 56, byHeap}, {4096, 1, 200, 57, byCrt}, {2048, 2, 200, 56, byCrt}, {1365, 3, 1000, 1000, byHeap}, {1366, 3, 1000, 1000, byCrt},
		{mostTerms, mostTerms, 200, 200, byCrt}, {mostTerms, mostTerms, 10, 10, byHeap}, {2001, 2001, 300, 300, byCrt}, {0, 5000, 1, 300, byHeap}, {0, 0, 1, 1, byHeap}, {1, 1, 300, 300, byHeap},
	}
	for i, c := range cases {
		a, b := filled(t, r, c.n, ofBits(t, c.bitsOfA)), filled(t, r, c.m, ofBits(t, c.bitsOfB).Neg())
		if got, back := multi.Choose(a, b), multi.Choose(b, a); got != c.want || back != c.want {
			t.Errorf("Choose of the case %d, of %d bits: got %d, the other way about %d, want %d", i, multi.Bits(a, b), got, back, c.want)
		}
	}
	wantWay(t, "zero Polys", mpoly.Poly{}, mpoly.Poly{}, byHeap)
	wantWay(t, "1 by 1 without variables", number(t, ring(0, api.Lex, 0), 1), number(t, ring(0, api.Lex, 0), 1), byHeap)
	// Two rings over the integers are not told apart here; the product has the error.
	a, b := filled(t, r, 64, ofBits(t, 200)), filled(t, ring(0, api.Lex, 1), 64, ofBits(t, 200))
	wantWay(t, "two rings over the integers", a, b, byCrt)
}

// corner is 1 and the product of powers of all variables, so that Bases are one more than these, by 1.
func corner(t *testing.T, r api.Ring, e ...int) mpoly.Poly {
	t.Helper()
	return polyOf(t, r, []mpoly.Term{{E: e, C: bigint.Of(1)}, {E: make(list, len(e)), C: bigint.Of(1)}})
}

func TestChooseOverAField(t *testing.T) { // P18.3: by the product of the Bases, and the Lens
	for _, p := range []uint64{2, 7, greatest} {
		r := ring(p, api.GrLex, 1)
		long := func(n int) mpoly.Poly { return polyOf(t, r, row(n, 0, 1, 0, 1)) }
		// 2 terms by 1 pack into 32 places, 2 by 2 into 64.
		wantWay(t, "x^31 + 1 by 1", corner(t, r, 31), number(t, r, 1), byKron)
		wantWay(t, "x^32 + 1 by 1", corner(t, r, 32), number(t, r, 1), byHeap)
		wantWay(t, "x^31 + 1 by x^32 + 1", corner(t, r, 31), corner(t, r, 32), byKron)
		wantWay(t, "x^32 + 1 by x^32 + 1", corner(t, r, 32), corner(t, r, 32), byHeap)
		wantWay(t, "x^15 by 1", made(t, r, list{1, 15}), number(t, r, 1), byKron)
		wantWay(t, "x^15 by x", made(t, r, list{1, 15}), made(t, r, list{1, 1}), byHeap)
		wantWay(t, "65536 places", long(32768), long(32769), byKron)
		wantWay(t, "65537 places", long(32769), long(32769), byHeap)
		wantWay(t, "65536 places by 1", long(65536), long(1), byKron)
		wantWay(t, "65537 places by 1", long(65537), long(1), byHeap)
		wantWay(t, "as many places as may be", long(mostTerms), long(mostTerms), byHeap)
		wantWay(t, "0 by 0", made(t, r), made(t, r), byHeap)
		wantWay(t, "0 by x + 1", made(t, r), long(2), byHeap)
		xy := ring(p, api.Lex, 2)
		wantWay(t, "x^3 y^7 + 1 by 1", corner(t, xy, 3, 7), number(t, xy, 1), byKron)
		wantWay(t, "x^2 y^10 + 1 by 1", corner(t, xy, 2, 10), number(t, xy, 1), byHeap)
		wantWay(t, "x^10 y^2 + 1 by 1", corner(t, xy, 10, 2), number(t, xy, 1), byHeap)
		wantWay(t, "high powers", corner(t, xy, mostExp, mostExp), corner(t, xy, mostExp, mostExp), byHeap)
		one := number(t, ring(p, api.Lex, 0), 1)
		wantWay(t, "1 by 1 without variables", one, one, byKron)
		wantWay(t, "0 by 1 without variables", made(t, ring(p, api.Lex, 0)), one, byHeap)
	}
}

func TestChooseOfManyBases(t *testing.T) { // P18.3: their product is no int
	r := ring(7, api.Lex, mostVars)
	for _, high := range []int{1 << 7, 1 << 8, 1<<15 - 1, 1 << 15, 1<<16 - 1, mostExp} {
		e := make(list, mostVars)
		for v := range e {
			e[v] = high
		}
		wantWay(t, "high powers of all variables", corner(t, r, e...), corner(t, r, e...), byHeap)
	}
	var l []mpoly.Term
	for v := range 4096 {
		e := make(list, mostVars)
		for i := range e {
			e[i] = v >> i & 1
		}
		e[7] = v >> 7
		l = append(l, mpoly.Term{E: e, C: bigint.Of(1)})
	}
	// Two to the 7th by 32 are 4096 places; by 1 + x + .. + x^31 those are 33 by 2 to the 6th by 32, which is 67584.
	a := polyOf(t, r, l)
	wantWay(t, "4096 places", a, number(t, r, 1), byKron)
	wantWay(t, "65536 places", a, polyOf(t, r, row(31, 0, 1, 0, mostVars)), byKron)
	wantWay(t, "67584 places", a, polyOf(t, r, row(32, 0, 1, 0, mostVars)), byHeap)
}

func TestChooseOfTwoRings(t *testing.T) { // P18.3: Bases has an error
	xy := ring(7, api.Lex, 2)
	a := made(t, xy, list{1, 1, 0}, list{1, 0, 1})
	wantWay(t, "one ring", a, a, byKron)
	for _, b := range append(others(t), made(t, ring(7, api.GrLex, 2), list{1, 0, 1}), made(t, ring(5, api.Lex, 2), list{1, 0, 1})) {
		if mpoly.Same(a.Ring(), b.Ring()) {
			continue
		}
		wantWay(t, "two rings", a, b, byHeap)
	}
	// A field by the integers: it is the first one's P that is looked at.
	long, great := polyOf(t, xy, row(64, 0, 1, 0, 2)), filled(t, ring(0, api.Lex, 2), 64, ofBits(t, 300))
	if got := multi.Choose(long, great); got != byHeap {
		t.Errorf("Choose of a field, and of great numbers: got %d", got)
	}
}

type mul func(a, b mpoly.Poly, below uint64) (mpoly.Poly, api.Errno)

// products are those that Mul is to be, by the ways' numbers.
func products() []mul {
	heapMul := func(a, b mpoly.Poly, _ uint64) (mpoly.Poly, api.Errno) { return heap.Mul(a, b) }
	kronMul := func(a, b mpoly.Poly, _ uint64) (mpoly.Poly, api.Errno) { return kron.Mul(a, b) }
	box := func(a, b mpoly.Poly, _ uint64) (mpoly.Poly, api.Errno) { return kron.Box(a, b) }
	own := func(a, b mpoly.Poly, _ uint64) (mpoly.Poly, api.Errno) {
		return []mul{nil, heapMul, kronMul, box, multi.ByPrimes}[multi.Choose(a, b)](a, b, mostWord)
	}
	return []mul{own, heapMul, kronMul, box, multi.ByPrimes}
}

func TestMulIsThatOfTheWay(t *testing.T) { // P18.3: with its errors
	s := source(31)
	errs := map[int]map[api.Errno]int{}
	for _, r := range rings() {
		high, all := s.poly(t, r, 3, mostExp), append(samples(t, &s, r), number(t, ring(5, api.Lex, 1), 1))
		for i := range 10 {
			a, b := all[s.below(len(all))], all[s.below(len(all))]
			if i == 0 {
				a, b = high, high
			}
			for way, want := range products() {
				below := []uint64{mostWord, 500, 5, 0, mostWord + 1}[s.below(5)]
				x, e := want(a, b, below)
				got, err := multi.Mul(a, b, way, below)
				if err != e || !got.Is(x) {
					t.Errorf("Mul by the way %d, below %d, over %v: got %d terms, error %d, want %d, error %d", way, below, r, got.Len(), int(err), x.Len(), int(e))
				}
				if errs[way] == nil {
					errs[way] = map[api.Errno]int{}
				}
				errs[way][err]++
			}
		}
	}
	for way, want := range []int{3, 3, 4, 4, 5} {
		if len(errs[way]) != want {
			t.Errorf("the way %d has the errors %v", way, errs[way])
		}
	}
}

func TestMulByEachWay(t *testing.T) { // P18.3: the product, where the way takes both
	s := source(32)
	for _, r := range rings() {
		all := samples(t, &s, r)
		for range 15 {
			a, b := all[s.below(len(all))], all[s.below(len(all))]
			want := plainOf(a).times(plainOf(b))
			for way := range 5 {
				got, err := multi.Mul(a, b, way, mostWord)
				switch {
				case (way == byKron || way == byBox) == (r.P == 0) && (way > byHeap):
					wantErr(t, "Mul by a way of other rings", got, err, api.ErrArg)
				case err != api.ErrLimit || way == auto || way == byHeap || way == byCrt:
					wantPoly(t, "Mul", r, got, err, want)
				}
			}
		}
	}
}

func TestMulByNoWay(t *testing.T) { // P18.3: ErrArg, ahead of all else
	a, b := made(t, ring(0, api.Lex, 2), list{1, mostExp, 0}), made(t, ring(7, api.Lex, 2), list{1, 1, 0})
	for _, way := range []int{-1, 5, 6, -2, 256, 1 << 32, math.MinInt, math.MaxInt} {
		for _, pair := range [][2]mpoly.Poly{{a, a}, {b, b}, {a, b}, {{}, {}}} {
			for _, below := range []uint64{mostWord, 0, mostWord + 1} {
				got, err := multi.Mul(pair[0], pair[1], way, below)
				wantErr(t, "Mul by no way", got, err, api.ErrArg)
			}
		}
	}
}

func TestMulOfTwoRings(t *testing.T) { // P18.3: each way has ErrRing
	a := made(t, ring(0, api.Lex, 2), list{1, 1, 0})
	for _, b := range others(t) {
		for way := range 5 {
			got, err := multi.Mul(a, b, way, mostWord)
			wantErr(t, "Mul of two rings", got, err, api.ErrRing)
			got, err = multi.Mul(b, a, way, mostWord)
			wantErr(t, "Mul of two rings", got, err, api.ErrRing)
		}
	}
}

func TestOnlyPrimesAskWhatTheyAreToBe(t *testing.T) { // P18.3: one's own choice takes the greatest ones
	r, f := ring(0, api.GrLex, 1), ring(7, api.GrLex, 1)
	great, small, field := filled(t, r, 70, ofBits(t, 150)), filled(t, r, 3, bigint.Of(2)), filled(t, f, 9, bigint.Of(3))
	wantWay(t, "great numbers", great, great, byCrt)
	wantWay(t, "small numbers", small, small, byHeap)
	wantWay(t, "a field", field, field, byKron)
	greater := filled(t, r, 64, ofBits(t, 1997)) // of 4000 bits
	wantWay(t, "as great numbers as may be", greater, greater, byCrt)
	for _, below := range []uint64{0, 3, 4, mostWord, mostWord + 1, math.MaxUint64} {
		for _, a := range []mpoly.Poly{great, greater, small, field} {
			want := fine(t)(a.Mul(a))
			for way := range 4 {
				if a.Ring().P != 0 || way <= byHeap {
					wantSame(t, "Mul", fine(t)(multi.Mul(a, a, way, below)), want)
				}
			}
		}
	}
	got, err := multi.Mul(great, great, byCrt, 4)
	wantErr(t, "Mul by primes below 4", got, err, api.ErrNone)
}
