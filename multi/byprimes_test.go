package multi_test

import (
	"math"
	"slices"
	"testing"

	"vinculum/api"
	"vinculum/bigint"
	"vinculum/mpoly"
	"vinculum/multi"
)

// bounds are such below which primes are taken, great ones and small ones.
func bounds() []uint64 {
	return []uint64{mostWord, greatest, 1 << 62, 1<<32 + 1, 65538, 3000, 500}
}

// wantByPrimesErr holds an error of ByPrimes, whichever of both is first.
func wantByPrimesErr(t *testing.T, what string, a, b mpoly.Poly, below uint64, want api.Errno) {
	t.Helper()
	got, err := multi.ByPrimes(a, b, below)
	wantErr(t, "ByPrimes of "+what, got, err, want)
	got, err = multi.ByPrimes(b, a, below)
	wantErr(t, "ByPrimes of "+what, got, err, want)
}

// wantByPrimes holds a product against a plain one, whichever of both is first, by some primes.
func wantByPrimes(t *testing.T, what string, a, b mpoly.Poly, below ...uint64) {
	t.Helper()
	want := plainOf(a).times(plainOf(b))
	for _, w := range below {
		got, err := multi.ByPrimes(a, b, w)
		wantPoly(t, what, a.Ring(), got, err, want)
		got, err = multi.ByPrimes(b, a, w)
		wantPoly(t, what+" the other way about", a.Ring(), got, err, want)
	}
}

func TestByPrimes(t *testing.T) { // P18.2
	s := source(21)
	for _, r := range integers() {
		all := samples(t, &s, r)
		for i, a := range all {
			for j := range 6 {
				wantByPrimes(t, "samples", a, all[(i+j*5)%len(all)], bounds()[s.below(7)], bounds()[s.below(7)])
			}
		}
	}
}

func TestByPrimesOfTheGreatestCoefficients(t *testing.T) { // P18.2: of those bits no number is greater, nor is one farther below 0
	r := ring(0, api.Lex, 1)
	for _, n := range []int{1, 2, 3, 4, 8, 64, 65} {
		for _, bits := range []int{1, 2, 5, 29, 30, 31, 61, 62, 63, 64, 200} {
			a := filled(t, r, n, ofBits(t, bits))
			for _, below := range []uint64{mostWord, 1 << 32, 1000} {
				wantByPrimes(t, "the greatest numbers", a, a, below)
				wantByPrimes(t, "the greatest numbers, below 0", a, a.Neg(), below)
			}
		}
	}
}

func TestByPrimesThatAreJustEnough(t *testing.T) { // P18.2
	r := ring(0, api.Lex, 1)
	// 31 times 31 is 961, of 10 bits, and -31 times 31 leaves other words than that by 13, 11, 7 and 5.
	a := made(t, r, list{31, 1})
	if l, err := multi.Primes(10, 14); err != api.OK || !slices.Equal(l, []uint64{13, 11, 7, 5}) {
		t.Errorf("Primes(10, 14): got %d, error %d", l, int(err))
	}
	wantByPrimes(t, "31x by 31x", a, a, 14, 15, 17, 18)
	wantByPrimes(t, "31x by -31x", a, a.Neg(), 14, 15, 17, 18)
	wantByPrimesErr(t, "31x by 31x", a, a, 13, api.ErrNone) // 11 times 7, 5 and 3 is 1155
	wantByPrimes(t, "31x by 15x", a, made(t, r, list{15, 1}), 13)
	for c := -31; c <= 31; c++ {
		wantByPrimes(t, "a number by 31", number(t, r, c), number(t, r, 31), 14)
	}
}

func TestByPrimesModuloTheGreatestNumbers(t *testing.T) { // P18.2: what is left are words near the prime, and there are many
	r := ring(0, api.GrLex, 1)
	for _, n := range []int{2, 7, 1000, 2000} {
		a := filled(t, r, n, bigint.Of(-1))
		want := make([]mpoly.Term, 2*n-1)
		for i := range want {
			want[i] = mpoly.Term{E: list{i}, C: bigint.Of(min(i+1, 2*n-1-i))}
		}
		for _, below := range []uint64{mostWord, 1<<62 + 1, 1 << 32, 30011, 500} {
			wantSame(t, "the square of -1 - x - x^2 - ..", fine(t)(multi.ByPrimes(a, a, below)), polyOf(t, r, want))
			wantSame(t, "-1 - x - x^2 - .. by less that", fine(t)(multi.ByPrimes(a, a.Neg(), below)), polyOf(t, r, want).Neg())
		}
	}
}

func TestByPrimesWhereAPrimeDividesCoefficients(t *testing.T) { // P18.2: what is 0 modulo some of the primes is a term nonetheless
	r := ring(0, api.Lex, 2)
	l, err := multi.Primes(200, mostWord)
	if err != api.OK || len(l) < 4 {
		t.Fatalf("Primes(200, ..): got %d, error %d", l, int(err))
	}
	p, q, u := bigint.Of(int(l[0])), bigint.Of(int(l[1])), bigint.Of(int(l[2]))
	a := polyOf(t, r, []mpoly.Term{{E: list{3, 0}, C: p}, {E: list{2, 0}, C: q}, {E: list{1, 1}, C: p.Mul(q)}, {E: list{1, 0}, C: q.Mul(u).Neg()}, {E: list{0, 0}, C: bigint.Of(1)}})
	wantByPrimes(t, "multiples of primes", a, a, mostWord)
	wantByPrimes(t, "multiples of primes, and 1", a, number(t, r, 1), mostWord)
	wantByPrimes(t, "multiples of primes, and y", a, made(t, r, list{-1, 0, 1}), mostWord)
}

func TestByPrimesOverOtherRings(t *testing.T) { // P18.2: ErrRing, ahead of all else
	xy := ring(0, api.Lex, 2)
	for _, a := range []mpoly.Poly{made(t, xy), made(t, xy, list{1, 1, 0}), made(t, xy, list{1, mostExp, mostExp}), polyOf(t, xy, row(5000, 0, 1, 0, 2))} {
		for _, b := range others(t) {
			for _, below := range []uint64{mostWord, 0, mostWord + 1} {
				wantByPrimesErr(t, "another ring", a, b, below, api.ErrRing)
			}
		}
		wantByPrimesErr(t, "another ring, and too many pairs", a, polyOf(t, ring(0, api.GrLex, 2), row(mostTerms, 0, 1, 1, 2)), mostWord, api.ErrRing)
	}
	wantByPrimesErr(t, "two fields", made(t, ring(7, api.Lex, 2)), made(t, ring(5, api.Lex, 2)), 0, api.ErrRing)
}

func TestByPrimesOverAField(t *testing.T) { // P18.2: ErrArg, ahead of the limits
	for _, p := range []uint64{2, 7, greatest} {
		r := ring(p, api.GrLex, 2)
		none, one := made(t, r), number(t, r, 1)
		for _, below := range []uint64{mostWord, 0, mostWord + 1} {
			wantByPrimesErr(t, "0 by 0 over a field", none, none, below, api.ErrArg)
			wantByPrimesErr(t, "0 by 1 over a field", none, one, below, api.ErrArg)
			wantByPrimesErr(t, "1 by 1 over a field", one, one, below, api.ErrArg)
		}
		high, long := made(t, r, list{1, mostExp, 0}), polyOf(t, r, row(5000, 0, 1, 0, 2))
		wantByPrimesErr(t, "high powers over a field", high, high, mostWord, api.ErrArg)
		wantByPrimesErr(t, "many pairs over a field", long, long, mostWord, api.ErrArg)
	}
}

func TestByPrimesOfNought(t *testing.T) { // P18.2: 0 of the same ring, if there is a prime
	s := source(22)
	for _, r := range integers() {
		none := made(t, r)
		for _, b := range []mpoly.Poly{none, number(t, r, 1), s.poly(t, r, 9, 3), s.poly(t, r, 9, mostExp+1), number(t, r, 1).Neg()} {
			for _, below := range []uint64{mostWord, 4, 100} {
				wantSame(t, "0 by another one", fine(t)(multi.ByPrimes(none, b, below)), none)
				wantSame(t, "another one by 0", fine(t)(multi.ByPrimes(b, none, below)), none)
			}
			wantByPrimesErr(t, "0, without primes", none, b, 3, api.ErrNone)
			wantByPrimesErr(t, "0, without primes", none, b, 0, api.ErrNone)
			wantByPrimesErr(t, "0, by primes that may not be", none, b, mostWord+1, api.ErrArg)
		}
	}
	full := polyOf(t, ring(0, api.Lex, 1), []mpoly.Term{{E: list{0}, C: ofBits(t, 5000)}})
	wantSame(t, "0 by a number of 5000 bits", fine(t)(multi.ByPrimes(full, made(t, full.Ring()), mostWord)), made(t, full.Ring()))
	for _, below := range []uint64{mostWord, 4} {
		got, err := multi.ByPrimes(mpoly.Poly{}, mpoly.Poly{}, below)
		wantErr(t, "ByPrimes of zero Polys", got, err, api.OK)
	}
	wantByPrimesErr(t, "zero Polys, without primes", mpoly.Poly{}, mpoly.Poly{}, 3, api.ErrNone)
}

func TestByPrimesWithHighExponents(t *testing.T) { // P18.2: the limit of In, ahead of the primes' errors
	cases := []struct {
		a, b []list
		want api.Errno
	}{
		{[]list{{1, mostExp / 2, 0}}, []list{{1, mostExp / 2, 0}}, api.OK}, {[]list{{1, mostExp / 2, 0}}, []list{{1, mostExp/2 + 1, 0}}, api.ErrLimit}, {[]list{{1, mostExp, 0}}, []list{{1, 0, mostExp}}, api.OK}, {[]list{{1, mostExp, mostExp}}, []list{{1, 0, 0}}, api.OK}, {[]list{{1, mostExp, mostExp}}, []list{{5, 0, 1}}, api.ErrLimit}, {[]list{{1, 0, mostExp}, {1, 1, 0}}, []list{{1, 0, 1}, {1, 1, 0}}, api.ErrLimit},
		{[]list{{1, 5, 0}, {1, 0, mostExp}}, []list{{1, mostExp - 5, 0}, {1, 3, 0}}, api.OK}, {[]list{{1, 6, 0}, {1, 0, mostExp}}, []list{{1, mostExp - 5, 0}, {1, 3, 0}}, api.ErrLimit}, {[]list{{1, mostExp, mostExp}}, []list{{1, mostExp, mostExp}}, api.ErrLimit}, {[]list{{1, mostExp, mostExp}}, nil, api.OK},
	}
	for _, order := range termOrders() {
		r := ring(0, order, 2)
		for _, c := range cases {
			a, b := made(t, r, c.a...), made(t, r, c.b...)
			if c.want == api.OK {
				wantByPrimes(t, "high exponents", a, b, mostWord, 100)
				continue
			}
			for _, below := range []uint64{mostWord, 0, mostWord + 1} {
				wantByPrimesErr(t, "high exponents", a, b, below, c.want)
			}
		}
	}
}

func TestByPrimesOfManyPairs(t *testing.T) { // P18.2: the limit of the Lens, times one another, ahead of the primes' errors: 41 times 97561 is one above it
	r := ring(0, api.Lex, 2)
	for _, c := range []struct {
		n, m int
		want api.Errno
	}{{2000, 2000, api.OK}, {40, 99961, api.OK}, {41, 97561, api.ErrLimit}, {2000, 2001, api.ErrLimit}, {1, mostTerms, api.OK}, {mostTerms, mostTerms, api.ErrLimit}} {
		a, b := polyOf(t, r, row(c.n, 0, 1, 0, 2)), polyOf(t, r, row(c.m, 0, -1, 0, 2))
		if c.want == api.OK {
			wantSame(t, "many pairs", fine(t)(multi.ByPrimes(a, b, mostWord)), fine(t)(a.Mul(b)))
			continue
		}
		for _, below := range []uint64{mostWord, 0, mostWord + 1} {
			wantByPrimesErr(t, "many pairs", a, b, below, c.want)
		}
	}
}

func TestByPrimesOfManyTerms(t *testing.T) { // P18.2: the limit of the product's terms: 11 times 9091 is one above it
	r := ring(0, api.GrLex, 2)
	for _, c := range []struct {
		n, m int
		want api.Errno
	}{{1000, 100, api.OK}, {9091, 11, api.ErrLimit}, {mostTerms, 1, api.OK}, {50001, 2, api.ErrLimit}, {33333, 3, api.OK}, {33334, 3, api.ErrLimit}, {400, 300, api.ErrLimit}} {
		a, b := polyOf(t, r, row(c.n, 0, 7, 0, 2)), polyOf(t, r, row(c.m, 0, -1, 1, 2))
		if c.want == api.OK {
			wantSame(t, "many terms", fine(t)(multi.ByPrimes(a, b, mostWord)), fine(t)(a.Mul(b)))
			continue
		}
		wantByPrimesErr(t, "many terms", a, b, mostWord, api.ErrLimit)
		wantByPrimesErr(t, "many terms", a, b, 300, api.ErrLimit)
		// The primes' errors are ahead of it.
		wantByPrimesErr(t, "many terms, without primes", a, b, 3, api.ErrNone)
		wantByPrimesErr(t, "many terms, by too few primes", a, b, 6, api.ErrNone)
		wantByPrimesErr(t, "many terms, by primes that may not be", a, b, mostWord+1, api.ErrArg)
	}
}

func TestByPrimesOfManyTermsByManyPrimes(t *testing.T) { // P18.2: they are the same ones modulo each prime
	a := filled(t, ring(0, api.Lex, 1), mostTerms, ofBits(t, 200))
	one := number(t, a.Ring(), 1)
	wantSame(t, "100000 terms by 1", fine(t)(multi.ByPrimes(a, one, mostWord)), a)
	wantSame(t, "-1 by 100000 terms", fine(t)(multi.ByPrimes(one.Neg(), a, mostWord)), a.Neg())
}

func TestByPrimesOfManyTermsAllTogether(t *testing.T) { // P18.2: modulo each prime there are but half of them
	r := ring(0, api.Lex, 2)
	for _, c := range []struct {
		more int
		want api.Errno
	}{{0, api.OK}, {1, api.ErrLimit}} {
		l := append(row(25000, 0, greatest, 0, 2), row(25000+c.more, 25000, 9223372036854775643, 0, 2)...)
		a, b := polyOf(t, r, l), made(t, r, list{1, 0, 1}, list{1, 0, 0})
		if primes, _ := multi.Primes(multi.Bits(a, b), mostWord); !slices.Equal(primes, []uint64{greatest, 9223372036854775643}) {
			t.Errorf("the primes are %d", primes)
		}
		if c.want == api.OK {
			wantSame(t, "100000 terms", fine(t)(multi.ByPrimes(a, b, mostWord)), fine(t)(a.Mul(b)))
		} else {
			wantByPrimesErr(t, "100002 terms", a, b, mostWord, c.want)
		}
	}
}

func TestByPrimesWhoseTermsGo(t *testing.T) { // P18.2: what is 0 in the end is no term
	r := ring(0, api.Lex, 1)
	a, b := polyOf(t, r, row(mostTerms, 0, 1, 0, 1)), made(t, r, list{1, 1}, list{-1, 0})
	want := made(t, r, list{1, mostTerms}, list{-1, 0})
	for _, below := range []uint64{mostWord, 100} {
		wantSame(t, "1 + x + .. by x - 1", fine(t)(multi.ByPrimes(a, b, below)), want)
		wantSame(t, "x - 1 by 1 + x + ..", fine(t)(multi.ByPrimes(b, a, below)), want)
	}
}

func TestByPrimesHasTheErrorsOfPrimes(t *testing.T) { // P18.2: of the Bits of both
	r := ring(0, api.Lex, 1)
	number := func(bits int) mpoly.Poly {
		return polyOf(t, r, []mpoly.Term{{E: list{1}, C: ofBits(t, bits)}})
	}
	x := number(1)
	wantByPrimes(t, "4000 bits", number(2000), number(2000), mostWord)
	wantByPrimes(t, "4000 bits", number(3999), x, mostWord, 1<<20, 3000)
	wantByPrimesErr(t, "4001 bits", number(2000), number(2001), mostWord, api.ErrLimit)
	wantByPrimesErr(t, "4001 bits", number(4000), x, mostWord, api.ErrLimit)
	wantByPrimesErr(t, "4001 bits", number(4000), x, 0, api.ErrLimit)
	wantByPrimesErr(t, "4001 bits", number(4000), x, mostWord+1, api.ErrArg)
	wantByPrimesErr(t, "4000 bits by small primes", number(2000), number(2000), 2800, api.ErrNone)
	wantByPrimesErr(t, "1 by 1", x, x, 5, api.ErrNone)
	wantByPrimesErr(t, "1 by 1", x, x, 0, api.ErrNone)
	wantByPrimesErr(t, "1 by 1", x, x, mostWord+1, api.ErrArg)
	wantByPrimesErr(t, "1 by 1", x, x, math.MaxUint64, api.ErrArg)
	wantByPrimes(t, "1 by 1", x, x, 6, 7, 11) // 5 times 3 is above 2 to the 3rd
	// The terms tell, too: 1 + x by 1 + x is of 3 bits, and 5 times 3 is not above 2 to the 4th.
	y := filled(t, r, 2, bigint.Of(1))
	wantByPrimesErr(t, "1 + x by 1 + x", y, y, 6, api.ErrNone)
	wantByPrimes(t, "1 + x by 1 + x", y, y, 8)
}
