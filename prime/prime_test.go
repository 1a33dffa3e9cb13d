package prime_test

import (
	"math"
	"math/big"
	"testing"

	"vinculum/api"
	"vinculum/prime"
)

// source is numbers that look like any others, the same ones in every run.
type source uint64

func (s *source) word() uint64 {
	*s += 0x9e3779b97f4a7c15
	w := uint64(*s)
	w = (w ^ w>>30) * 0xbf58476d1ce4e5b9
	w = (w ^ w>>27) * 0x94d049bb133111eb
	return w ^ w>>31
}

const (
	// highestBelow is the highest prime below 2 to the 63rd, highest that of all words.
	highestBelow = 1<<63 - 25
	highest      = 1<<64 - 59
)

// sieve tells of the numbers below n which are primes, by striking out multiples.
func sieve(n int) []bool {
	is := make([]bool, n)
	for i := 2; i < n; i++ {
		is[i] = true
	}
	for i := 2; i*i < n; i++ {
		for j := i * i; is[i] && j < n; j += i {
			is[j] = false
		}
	}
	return is
}

func great(x uint64) *big.Int { return new(big.Int).SetUint64(x) }

// known is what Is must answer, by other means: those are right of every word.
func known(n uint64) bool { return great(n).ProbablyPrime(0) }

func checkIs(t *testing.T, n uint64) {
	t.Helper()
	if got, want := prime.Is(n), known(n); got != want {
		t.Errorf("Is(%d) is %t", n, got)
	}
}

// edges are words at the bounds of words, of half of their bits, and around them.
func edges() []uint64 {
	var list []uint64
	for n := range 64 {
		for i := range uint64(5) {
			list = append(list, 1<<n-2+i)
		}
	}
	return append(list, math.MaxUint64, math.MaxUint64-1, highest, highestBelow, 2*highestBelow, 0, 1, 2, 3)
}

func TestIsOfSmallNumbers(t *testing.T) { // P4.1
	for n, want := range sieve(300000) {
		if got := prime.Is(uint64(n)); got != want {
			t.Errorf("Is(%d) is %t", n, got)
		}
	}
}

func TestIsAtEdges(t *testing.T) { // P4.1
	for _, n := range edges() {
		checkIs(t, n)
	}
	for _, middle := range []uint64{1 << 16, 1 << 31, 1 << 32, 3037000499, 1 << 53, 1 << 62, 1 << 63, math.MaxUint64 - 3000} {
		for n := middle - 3000; n < middle+3000; n++ {
			checkIs(t, n)
		}
	}
}

func TestIsOfWordsOfAllSizes(t *testing.T) { // P4.1
	s := source(1)
	for n := range 64 {
		for range 300 {
			checkIs(t, s.word()>>n|1)
		}
	}
}

func TestIsOfHighPrimes(t *testing.T) { // P4.1
	for _, n := range []uint64{
		highestBelow, highest, 1<<61 - 1, 1<<31 - 1, 4294967291, 998244353, 1<<62 - 57, 18446744069414584321,
	} {
		if !prime.Is(n) {
			t.Errorf("Is(%d) is false", n)
		}
	}
}

func TestPseudoprimes(t *testing.T) { // P4.1
	// These pass the strong test by the first prime, by the first two, and so on to
	// the first eleven; then come Carmichael's numbers, which pass Fermat's test by
	// all bases; then numbers that pass the strong test by some base.
	for _, n := range []uint64{
		2047, 1373653, 25326001, 3215031751, 2152302898747, 3474749660383, 341550071728321, 3825123056546413051,
		561, 1105, 1729, 2465, 2821, 6601, 8911, 10585, 15841, 825265, 321197185, 9746347772161,
		121, 703, 781, 1541, 25, 325, 91, 133, 9, 15, 3277, 4033, 4681, 8321, 3697278427, 46856248255981,
		4759123141, 3770579582154547, 585226005592931977, 7999252175582851, 55245642489451,
	} {
		if prime.Is(n) {
			t.Errorf("Is(%d) is true", n)
		}
		checkIs(t, n)
	}
}

func TestPseudoprimesByForm(t *testing.T) { // P4.1
	// Products of two primes p and so many times (p less 1) and 1 pass the strong
	// test by more bases than others.
	for times := uint64(2); times < 12; times++ {
		for _, from := range []uint64{41, 1000, 100000, 1 << 24, 1 << 30} {
			for i := range uint64(1500) {
				p := from + i
				q := times*(p-1) + 1
				if q < 1<<32 && prime.Is(p*q) {
					t.Errorf("Is(%d, which is %d times %d) is true", p*q, p, q)
				}
			}
		}
	}
}

func TestNextOfSmallNumbers(t *testing.T) { // P4.1
	const bound = 100000
	is := sieve(bound + 200)
	next := uint64(bound + 199)
	for !is[next] {
		next--
	}
	for n := next; n < math.MaxUint64; n-- {
		if is[n] {
			next = n
		}
		if got, err := prime.Next(n); got != next || err != api.OK {
			t.Errorf("Next(%d) is %d, error %d, and not %d", n, got, int(err), next)
		}
	}
}

// nextOf is what Next must answer.
func nextOf(n uint64) (uint64, api.Errno) {
	for ; n < 1<<63; n++ {
		if known(n) {
			return n, api.OK
		}
	}
	return 0, api.ErrNone
}

func TestNext(t *testing.T) { // P4.1
	list := edges()
	s := source(2)
	for n := range 64 {
		list = append(list, s.word()>>n, s.word()>>n, s.word()>>n)
	}
	for i := range uint64(60) {
		list = append(list, 1<<63-i, 1<<63+i, math.MaxUint64-i)
	}
	// The widest gaps between primes up to them stand behind these.
	list = append(list, 31398, 20831324, 2300942550, 42652618344, 1425172824437700, 1425172824437701)
	for _, n := range list {
		want, wantErr := nextOf(n)
		if got, err := prime.Next(n); got != want || err != wantErr {
			t.Errorf("Next(%d) is %d, error %d, and not %d, error %d", n, got, int(err), want, int(wantErr))
		}
	}
}

func TestNextErrors(t *testing.T) { // P4.1
	cases := []struct {
		n, want uint64
		err     api.Errno
	}{
		{0, 2, api.OK}, {1, 2, api.OK}, {2, 2, api.OK}, {3, 3, api.OK}, {4, 5, api.OK}, {8, 11, api.OK},
		{highestBelow, highestBelow, api.OK}, {highestBelow - 1, highestBelow, api.OK},
		{highestBelow + 1, 0, api.ErrNone}, {1<<63 - 1, 0, api.ErrNone}, {1 << 63, 0, api.ErrNone},
		{1<<63 + 29, 0, api.ErrNone}, {highest, 0, api.ErrNone}, {math.MaxUint64, 0, api.ErrNone},
	}
	for _, c := range cases {
		if got, err := prime.Next(c.n); got != c.want || err != c.err {
			t.Errorf("Next(%d) is %d, error %d, and not %d, error %d", c.n, got, int(err), c.want, int(c.err))
		}
	}
}

func TestExamples(t *testing.T) { // the chapter's examples
	if prime.Is(91) {
		t.Error("Is(91) is true")
	}
	if got, err := prime.Next(90); got != 97 || err != api.OK {
		t.Errorf("Next(90) is %d, error %d", got, int(err))
	}
	if got, err := prime.Scan(20, 1, 1000000000); err != api.OK || len(got) != 1 || got[0] != 998244353 {
		t.Errorf("Scan(20, 1, 1000000000) is %d, error %d", got, int(err))
	}
	if got, err := prime.Root(17, 2); got != 13 || err != api.OK {
		t.Errorf("Root(17, 2) is %d, error %d", got, int(err))
	}
}
