package prime_test

import (
	"math"
	"math/big"
	"math/bits"
	"testing"

	"vinculum/api"
	"vinculum/prime"
)

func powerOf(x, n, p uint64) uint64 { return new(big.Int).Exp(great(x), great(n), great(p)).Uint64() }

// orderOf is the order of x modulo a small prime, by its definition.
func orderOf(p, x uint64) uint64 {
	n := uint64(1)
	for y := x % p; y != 1; n++ {
		y = y * x % p
	}
	return n
}

// rootOf is what Root must answer for a small prime, by its definition.
func rootOf(p uint64, k int) (uint64, api.Errno) {
	if (p-1)%(1<<k) != 0 {
		return 0, api.ErrArg
	}
	for x := uint64(1); ; x++ {
		y := uint64(1)
		for range (p - 1) >> k {
			y = y * x % p
		}
		if orderOf(p, y) == 1<<k {
			return y, api.OK
		}
	}
}

// greatPrimes have all numbers of twos that divide what is one less.
func greatPrimes(t *testing.T) []uint64 {
	t.Helper()
	list := []uint64{highestBelow, 1<<61 - 1, 998244353, 469762049, 4611686018326724609, 4179340454199820289, 1<<31 - 1}
	for k := 1; k <= 40; k += 3 {
		below, err := prime.Scan(k, 3, 1<<63)
		if err != api.OK {
			t.Fatalf("Scan(%d, 3, 2 to the 63rd): error %d", k, int(err))
		}
		list = append(list, below...)
	}
	// The only primes below 2 to the 63rd with so many twos are of this kind.
	for k := 41; k < 62; k++ {
		for n := uint64(1)<<k + 1; n < 1<<63; n += 2 << k {
			if known(n) {
				list = append(list, n)
				break
			}
		}
	}
	return list
}

func TestRootOfSmallPrimes(t *testing.T) { // P4.3
	for p, is := range sieve(800) {
		for k := range 12 {
			if !is {
				continue
			}
			want, wantErr := rootOf(uint64(p), k)
			if got, err := prime.Root(uint64(p), k); got != want || err != wantErr {
				t.Errorf("Root(%d, %d) is %d, error %d, and not %d, error %d", p, k, got, int(err), want, int(wantErr))
			}
		}
	}
}

// checkRoots tries all k of an odd prime.
func checkRoots(t *testing.T, p uint64) {
	t.Helper()
	x := uint64(2) // the least number that is no square
	for powerOf(x, (p-1)/2, p) == 1 {
		x++
	}
	twos := bits.TrailingZeros64(p - 1)
	for k := range twos + 1 {
		want := powerOf(x, (p-1)>>k, p)
		if got, err := prime.Root(p, k); got != want || err != api.OK {
			t.Errorf("Root(%d, %d) is %d, error %d, and not %d", p, k, got, int(err), want)
		}
	}
	if got, err := prime.Root(p, twos+1); got != 0 || err != api.ErrArg {
		t.Errorf("Root(%d, %d) is %d, error %d", p, twos+1, got, int(err))
	}
}

func TestRootOfGreatPrimes(t *testing.T) { // P4.3
	for _, p := range greatPrimes(t) {
		checkRoots(t, p)
	}
}

func TestRootOfPrimesWithLateRoots(t *testing.T) { // P4.3
	// The least number that is no square modulo these is far off: 7, 11, and so on to
	// 101.
	for _, p := range []uint64{
		71, 311, 479, 1559, 5711, 10559, 18191, 31391, 422231, 701399, 366791, 3818929, 9257329, 22000801,
		36415991, 48473881, 120293879, 131486759, 175244281, 427733329, 2929911599, 7979490791,
	} {
		checkRoots(t, p)
	}
}

func TestRootErrors(t *testing.T) { // P4.3
	cases := []struct {
		p    uint64
		k    int
		want uint64
		err  api.Errno
	}{
		{0, 0, 0, api.ErrPrime}, {1, 0, 0, api.ErrPrime}, {4, 0, 0, api.ErrPrime}, {15, 1, 0, api.ErrPrime}, {561, 4, 0, api.ErrPrime},
		{highest, 0, 0, api.ErrPrime}, {highest, 2, 0, api.ErrPrime}, {1 << 63, 0, 0, api.ErrPrime}, {1<<63 + 29, 0, 0, api.ErrPrime},
		{18446744069414584321, 32, 0, api.ErrPrime}, {math.MaxUint64, 0, 0, api.ErrPrime}, {1<<63 - 1, 0, 0, api.ErrPrime},
		{15, -1, 0, api.ErrPrime}, {15, 99, 0, api.ErrPrime}, {0, -1, 0, api.ErrPrime}, {highest, -1, 0, api.ErrPrime}, // ahead of ErrArg
		{17, -1, 0, api.ErrArg}, {17, 5, 0, api.ErrArg}, {17, 63, 0, api.ErrArg}, {17, 64, 0, api.ErrArg}, {17, 65, 0, api.ErrArg}, {17, 68, 0, api.ErrArg},
		{17, math.MinInt, 0, api.ErrArg}, {17, math.MaxInt, 0, api.ErrArg}, {2, 1, 0, api.ErrArg}, {2, 64, 0, api.ErrArg}, {2, -1, 0, api.ErrArg},
		{7, 2, 0, api.ErrArg}, {3, 2, 0, api.ErrArg}, {highestBelow, 2, 0, api.ErrArg},
		{2, 0, 1, api.OK}, {3, 0, 1, api.OK}, {3, 1, 2, api.OK}, {17, 0, 1, api.OK}, {17, 1, 16, api.OK}, {17, 3, 9, api.OK}, {17, 4, 3, api.OK},
		{highestBelow, 0, 1, api.OK}, {highestBelow, 1, highestBelow - 1, api.OK},
	}
	for _, c := range cases {
		if got, err := prime.Root(c.p, c.k); got != c.want || err != c.err {
			t.Errorf("Root(%d, %d) is %d, error %d, and not %d, error %d", c.p, c.k, got, int(err), c.want, int(c.err))
		}
	}
}

func TestOrderOfSmallPrimes(t *testing.T) { // P4.3
	for p, is := range sieve(300) {
		if !is {
			continue
		}
		for x := range 3 * uint64(p) {
			want, wantErr := 0, api.ErrArg
			if x%uint64(p) != 0 {
				wantErr = api.ErrNone
				if n := orderOf(uint64(p), x); n&(n-1) == 0 {
					want, wantErr = bits.TrailingZeros64(n), api.OK
				}
			}
			if got, err := prime.Order(uint64(p), x); got != want || err != wantErr {
				t.Errorf("Order(%d, %d) is %d, error %d, and not %d, error %d", p, x, got, int(err), want, int(wantErr))
			}
		}
	}
}

// knownOrder is what Order must answer for a prime and a number that it does not divide.
func knownOrder(p, x uint64) (int, api.Errno) {
	for k := range 63 {
		if powerOf(x, 1<<k, p) == 1 {
			return k, api.OK
		}
	}
	return 0, api.ErrNone
}

func TestOrderOfGreatPrimes(t *testing.T) { // P4.3
	s := source(4)
	for _, p := range greatPrimes(t) {
		twos := bits.TrailingZeros64(p - 1)
		list := []uint64{1, 2, 3, p - 1, p + 1, p - 2, s.word(), s.word(), math.MaxUint64, powerOf(2, (p-1)>>twos, p)}
		for range 2 * twos {
			list = append(list, powerOf(s.word(), (p-1)>>(s.word()%uint64(twos+1)), p))
		}
		for _, x := range list {
			if x%p == 0 {
				continue
			}
			want, wantErr := knownOrder(p, x)
			if got, err := prime.Order(p, x); got != want || err != wantErr {
				t.Errorf("Order(%d, %d) is %d, error %d, and not %d, error %d", p, x, got, int(err), want, int(wantErr))
			}
		}
	}
}

func TestOrderErrors(t *testing.T) { // P4.3
	cases := []struct {
		p, x uint64
		want int
		err  api.Errno
	}{
		{0, 0, 0, api.ErrPrime}, {0, 1, 0, api.ErrPrime}, {1, 1, 0, api.ErrPrime}, {9, 2, 0, api.ErrPrime}, {9, 9, 0, api.ErrPrime},
		{15, 1, 0, api.ErrPrime}, {highest, 1, 0, api.ErrPrime}, {1 << 63, 1, 0, api.ErrPrime}, {1<<63 + 29, 1, 0, api.ErrPrime},
		{18446744069414584321, 1, 0, api.ErrPrime}, {highest, 0, 0, api.ErrPrime}, {math.MaxUint64, 1, 0, api.ErrPrime},
		{17, 0, 0, api.ErrArg}, {17, 17, 0, api.ErrArg}, {17, 34, 0, api.ErrArg}, {2, 0, 0, api.ErrArg}, {2, 2, 0, api.ErrArg}, {2, 1 << 63, 0, api.ErrArg},
		{highestBelow, highestBelow, 0, api.ErrArg}, {highestBelow, 2 * highestBelow, 0, api.ErrArg}, {5, math.MaxUint64, 0, api.ErrArg},
		{7, 2, 0, api.ErrNone}, {7, 3, 0, api.ErrNone}, {3, 1, 0, api.OK}, {3, 2, 1, api.OK}, {13, 4, 0, api.ErrNone}, {13, 5, 2, api.OK}, {13, 2, 0, api.ErrNone},
		{2, 1, 0, api.OK}, {2, 3, 0, api.OK}, {2, math.MaxUint64, 0, api.OK}, {17, 1, 0, api.OK}, {17, 18, 0, api.OK}, {17, 16, 1, api.OK}, {17, 20, 4, api.OK},
		{17, math.MaxUint64, 0, api.ErrArg}, {65537, 3, 16, api.OK}, {65537, 2, 5, api.OK}, {highestBelow, highestBelow - 1, 1, api.OK},
		{highestBelow, highestBelow + 1, 0, api.OK}, {highestBelow, 2*highestBelow - 1, 1, api.OK},
	}
	for _, c := range cases {
		if got, err := prime.Order(c.p, c.x); got != c.want || err != c.err {
			t.Errorf("Order(%d, %d) is %d, error %d, and not %d, error %d", c.p, c.x, got, int(err), c.want, int(c.err))
		}
	}
}
