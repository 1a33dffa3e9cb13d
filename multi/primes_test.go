package multi_test

import (
	"math"
	"math/big"
	"slices"
	"testing"

	"vinculum/api"
	"vinculum/bigint"
	"vinculum/mpoly"
	"vinculum/multi"
)

func TestBits(t *testing.T) { // P18.1
	r := ring(0, api.GrLex, 2)
	long := func(n int) mpoly.Poly { return filled(t, r, n, bigint.Of(-1)) }
	cases := []struct {
		a, b mpoly.Poly
		want int
	}{
		{made(t, r, list{3, 1, 0}, list{1, 0, 0}), made(t, r, list{-4, 0, 1}), 5},
		{made(t, r, list{3, 1, 0}, list{1, 0, 0}), made(t, r, list{3, 1, 0}, list{1, 0, 0}), 5},
		{made(t, r), made(t, r, list{3, 1, 0}), 0}, {made(t, r), made(t, r), 0}, {mpoly.Poly{}, mpoly.Poly{}, 0},
		{number(t, r, 1), number(t, r, 1), 2}, {number(t, r, -1), number(t, r, 2), 3}, {number(t, r, 3), number(t, r, -4), 5}, {number(t, r, math.MinInt), number(t, r, 1), 65}, {number(t, r, math.MaxInt), number(t, r, 1), 64},
		// The greatest one may stand anywhere, and have either sign.
		{made(t, r, list{1, 2, 0}, list{-1000, 1, 0}, list{3, 0, 0}), number(t, r, 1), 11}, {made(t, r, list{-1024, 2, 0}, list{1000, 1, 0}, list{3, 0, 0}), number(t, r, 1), 12}, {made(t, r, list{1, 2, 0}, list{5, 1, 0}, list{512, 0, 0}), number(t, r, 1), 11},
		{long(1), long(1000), 2}, {long(2), long(1000), 3}, {long(3), long(1000), 4}, {long(4), long(1000), 4}, {long(5), long(5), 5}, {long(8), long(9), 5}, {long(9), long(9), 6}, {long(64), long(65), 8}, {long(65), long(65), 9}, {long(mostTerms), long(mostTerms), 19}, {long(65536), long(mostTerms), 18}, {long(65537), long(mostTerms), 19},
	}
	for i, c := range cases {
		if got, back := multi.Bits(c.a, c.b), multi.Bits(c.b, c.a); got != c.want || back != c.want {
			t.Errorf("Bits of the case %d: got %d, the other way about %d, want %d", i, got, back, c.want)
		}
	}
	for _, n := range []int{1, 63, 64, 65, 4000, 5000} {
		a := filled(t, r, 3, ofBits(t, n))
		if got := multi.Bits(a, a.Neg()); got != 2*n+2 {
			t.Errorf("Bits of numbers of %d bits: got %d", n, got)
		}
	}
}

func TestBitsOverAField(t *testing.T) { // P18.1: of its coefficients, which are from 0 on
	a := made(t, ring(7, api.Lex, 1), list{-1, 2}, list{1, 0})
	if got := multi.Bits(a, a); got != 7 {
		t.Errorf("Bits of 6x^2 + 1, twice: got %d, want 7", got)
	}
	if got := multi.Bits(a, made(t, ring(0, api.GrLex, 2), list{-9, 0, 1})); got != 7 {
		t.Errorf("Bits of two rings: got %d, want 7", got)
	}
}

func TestNoCoefficientHasMoreBits(t *testing.T) { // P18.1
	s := source(11)
	for _, r := range integers() {
		all := samples(t, &s, r)
		for range 60 {
			a, b := all[s.below(len(all))], all[s.below(len(all))]
			most := multi.Bits(a, b)
			for e, c := range plainOf(a).times(plainOf(b)) {
				if c.BitLen() > most {
					t.Errorf("over %v: the coefficient at %v has %d bits, Bits is %d", r, e, c.BitLen(), most)
				}
			}
		}
	}
}

// sieve is the primes from 3 on, below a number.
func sieve(below int) []uint64 {
	var l []uint64
	for n := 3; n < below; n += 2 {
		if big.NewInt(int64(n)).ProbablyPrime(0) {
			l = append(l, uint64(n))
		}
	}
	return l
}

// enough tells whether the product of words is above 2 to the (bits and 1)th.
func enough(bits int, l []uint64) bool {
	product := big.NewInt(1)
	for _, p := range l {
		product.Mul(product, new(big.Int).SetUint64(p))
	}
	return product.Cmp(new(big.Int).Lsh(big.NewInt(1), uint(bits+1))) > 0
}

// fewest is the first ones of a list that are enough; nil, if all are not.
func fewest(bits int, all []uint64) []uint64 {
	for n := range len(all) + 1 {
		if enough(bits, all[:n]) {
			return all[:n]
		}
	}
	return nil
}

func wantPrimes(t *testing.T, bits int, below uint64, want []uint64, e api.Errno) {
	t.Helper()
	got, err := multi.Primes(bits, below)
	if !slices.Equal(got, want) || err != e || e != api.OK && got != nil {
		t.Errorf("Primes(%d, %d): got %d, error %d, want %d, error %d", bits, below, got, int(err), want, int(e))
	}
}

func TestPrimes(t *testing.T) { // P18.1
	wantPrimes(t, 61, mostWord, []uint64{greatest}, api.OK)
	wantPrimes(t, 62, mostWord, []uint64{greatest, 9223372036854775643}, api.OK)
	wantPrimes(t, 0, mostWord, []uint64{greatest}, api.OK)
	wantPrimes(t, 0, greatest+1, []uint64{greatest}, api.OK)
	wantPrimes(t, 0, greatest, []uint64{9223372036854775643}, api.OK)
	wantPrimes(t, 61, greatest, []uint64{9223372036854775643}, api.OK)
	wantPrimes(t, 5, 10, []uint64{7, 5, 3}, api.OK)
	wantPrimes(t, 5, 8, []uint64{7, 5, 3}, api.OK)
	wantPrimes(t, 5, 7, nil, api.ErrNone)
	wantPrimes(t, 6, 10, nil, api.ErrNone)
	wantPrimes(t, 0, 4, []uint64{3}, api.OK)
	wantPrimes(t, 1, 4, nil, api.ErrNone)
	wantPrimes(t, 5, 100, []uint64{97}, api.OK)
	// 127 is not above 2 to the 7th, and 131 is; 257 and 65537 are just above a power of 2.
	wantPrimes(t, 6, 128, []uint64{127, 113}, api.OK)
	wantPrimes(t, 6, 132, []uint64{131}, api.OK)
	wantPrimes(t, 7, 258, []uint64{257}, api.OK)
	wantPrimes(t, 8, 258, []uint64{257, 251}, api.OK)
	wantPrimes(t, 15, 65538, []uint64{65537}, api.OK)
	wantPrimes(t, 15, 65537, []uint64{65521, 65519}, api.OK)
}

func TestPrimesBelowSmallNumbers(t *testing.T) { // P18.1: against all that there are
	for below := range 260 {
		all := sieve(below)
		slices.Reverse(all)
		for bits := range 80 {
			if want := fewest(bits, all); want == nil {
				wantPrimes(t, bits, uint64(below), nil, api.ErrNone)
			} else {
				wantPrimes(t, bits, uint64(below), want, api.OK)
			}
		}
	}
}

func TestPrimesAreTheGreatest(t *testing.T) { // P18.1: none is left out, and one fewer is not enough
	s := source(12)
	for range 40 {
		bits, below := s.below(4001), s.word()>>(1+s.below(48))
		l, err := multi.Primes(bits, below)
		if err != api.OK || !enough(bits, l) || enough(bits, l[:len(l)-1]) {
			t.Fatalf("Primes(%d, %d): got %d of them, error %d", bits, below, len(l), int(err))
		}
		next := below
		for _, p := range l {
			for next--; next > p; next-- {
				if new(big.Int).SetUint64(next).ProbablyPrime(0) {
					t.Errorf("Primes(%d, %d): %d is left out", bits, below, next)
				}
			}
			if next != p || !new(big.Int).SetUint64(p).ProbablyPrime(10) {
				t.Fatalf("Primes(%d, %d): got %d, below %d", bits, below, p, next)
			}
		}
	}
}

func TestPrimesOfManyBits(t *testing.T) { // P18.1: up to 4000, by as many primes as it takes
	for _, c := range []struct {
		bits  int
		below uint64
		many  int
	}{{4000, mostWord, 64}, {3967, mostWord, 63}, {3968, mostWord, 64}, {4000, 1 << 32, 126}} {
		if l, err := multi.Primes(c.bits, c.below); len(l) != c.many || err != api.OK {
			t.Errorf("Primes(%d, %d): got %d of them, error %d, want %d", c.bits, c.below, len(l), int(err), c.many)
		}
	}
	// The least bound below which all there are are enough, and the one below that.
	all := slices.Clone(fewest(4000, sieve(4000)))
	slices.Reverse(all)
	wantPrimes(t, 4000, all[0]+1, fewest(4000, all), api.OK)
	wantPrimes(t, 4000, all[0], nil, api.ErrNone)
	if len(all) < 400 {
		t.Errorf("there are no more than %d primes", len(all))
	}
}

func TestPrimesOfWrongNumbers(t *testing.T) { // P18.1
	for _, bits := range []int{-1, -2, -4001, math.MinInt} {
		for _, below := range []uint64{0, 3, 100, mostWord, mostWord + 1, math.MaxUint64} {
			wantPrimes(t, bits, below, nil, api.ErrArg)
		}
	}
	for _, bits := range []int{0, 1, 61, 4000, 4001, math.MaxInt} {
		for _, below := range []uint64{mostWord + 1, mostWord + 100, math.MaxUint64} {
			wantPrimes(t, bits, below, nil, api.ErrArg)
		}
	}
	for _, bits := range []int{4001, 4002, 100000, 100001, math.MaxInt - 1, math.MaxInt} {
		for _, below := range []uint64{0, 1, 3, 4, 100, mostWord} {
			wantPrimes(t, bits, below, nil, api.ErrLimit)
		}
	}
	for _, bits := range []int{0, 1, 61, 4000} {
		for _, below := range []uint64{0, 1, 2, 3} {
			wantPrimes(t, bits, below, nil, api.ErrNone)
		}
	}
}
