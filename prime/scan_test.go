package prime_test

import (
	"math"
	"slices"
	"testing"

	"vinculum/api"
	"vinculum/prime"
)

// scanned is what Scan must answer for a k, a number of primes and a bound that may be.
func scanned(k, many int, below uint64, is func(uint64) bool) ([]uint64, api.Errno) {
	if below < 2 {
		return nil, api.ErrNone
	}
	step := uint64(1) << k
	n := below - 1
	n -= (n - 1) % step
	var list []uint64
	for len(list) < many {
		if n == 1 {
			return nil, api.ErrNone
		}
		if is(n) {
			list = append(list, n)
		}
		n -= step
	}
	return list, api.OK
}

func checkScan(t *testing.T, k, many int, below uint64, is func(uint64) bool) {
	t.Helper()
	want, wantErr := scanned(k, many, below, is)
	got, err := prime.Scan(k, many, below)
	if !slices.Equal(got, want) || err != wantErr {
		t.Errorf("Scan(%d, %d, %d) is %d, error %d, and not %d, error %d", k, many, below, got, int(err), want, int(wantErr))
	}
}

func TestScanOfSmallNumbers(t *testing.T) { // P4.2
	small := sieve(3000)
	is := func(n uint64) bool { return small[n] }
	for k := 1; k <= 12; k++ {
		for _, many := range []int{1, 2, 3, 5, 17, 63, 64} {
			for below := uint64(0); below < 3000; below += 1 + below/700 {
				checkScan(t, k, many, below, is)
			}
		}
	}
}

func TestScanOfGreatNumbers(t *testing.T) { // P4.2
	for _, k := range []int{1, 2, 10, 20, 27, 32, 39, 40} {
		for _, below := range []uint64{1 << 63, 1<<63 - 1, highestBelow, highestBelow + 1, 1 << 62, 1<<62 + 1, 4611686018326724609, 4611686018326724610, 1 << 48} {
			for _, many := range []int{1, 2, 9, 64} {
				checkScan(t, k, many, below, known)
			}
		}
	}
	s := source(3)
	for i := range 200 {
		checkScan(t, 1+i%40, 1+i%7, s.word()>>(1+i%12), known)
	}
}

func TestScanAtPrimes(t *testing.T) { // P4.2
	// A prime is not below itself, and below what follows it.
	for k := 1; k <= 40; k++ {
		list, err := prime.Scan(k, 5, 1<<63)
		if err != api.OK {
			t.Fatalf("Scan(%d, 5, 2 to the 63rd): error %d", k, int(err))
		}
		for i, p := range list[:4] {
			at, _ := prime.Scan(k, 1, p)
			behind, _ := prime.Scan(k, 1, p+1)
			if !slices.Equal(at, list[i+1:i+2]) || !slices.Equal(behind, list[i:i+1]) {
				t.Errorf("Scan(%d, 1, ...) at %d and behind it: %d and %d", k, p, at, behind)
			}
		}
	}
}

func TestScanDownToTheLastPrime(t *testing.T) { // P4.2
	// The lowest prime that leaves 1 is found, and with one more there are too few.
	for k := 1; k <= 40; k++ {
		lowest := uint64(1)<<k + 1
		for !known(lowest) {
			lowest += 1 << k
		}
		if got, err := prime.Scan(k, 1, lowest+1); !slices.Equal(got, []uint64{lowest}) || err != api.OK {
			t.Errorf("Scan(%d, 1, %d) is %d, error %d", k, lowest+1, got, int(err))
		}
		if got, err := prime.Scan(k, 2, lowest+1); got != nil || err != api.ErrNone {
			t.Errorf("Scan(%d, 2, %d) is %d, error %d", k, lowest+1, got, int(err))
		}
		if got, err := prime.Scan(k, 1, lowest); got != nil || err != api.ErrNone {
			t.Errorf("Scan(%d, 1, %d) is %d, error %d", k, lowest, got, int(err))
		}
	}
}

func TestScanErrors(t *testing.T) { // P4.2
	cases := []struct {
		k, many int
		below   uint64
		want    api.Errno
	}{
		{0, 1, 1000, api.ErrArg}, {41, 1, 1 << 63, api.ErrArg}, {-1, 1, 1000, api.ErrArg}, {64, 1, 1000, api.ErrArg},
		{math.MinInt, 1, 1000, api.ErrArg}, {math.MaxInt, 1, 1000, api.ErrArg},
		{4, 0, 1000, api.ErrArg}, {4, 65, 1 << 63, api.ErrArg}, {4, -1, 1000, api.ErrArg},
		{4, math.MinInt, 1000, api.ErrArg}, {4, math.MaxInt, 1000, api.ErrArg},
		{4, 1, 1<<63 + 1, api.ErrArg}, {4, 1, math.MaxUint64, api.ErrArg},
		{0, 1, 0, api.ErrArg}, {1, 0, 0, api.ErrArg}, {1, 65, 0, api.ErrArg}, // ahead of ErrNone
		{1, 1, 0, api.ErrNone}, {1, 1, 1, api.ErrNone}, {1, 1, 2, api.ErrNone}, {1, 1, 3, api.ErrNone},
		{40, 1, 0, api.ErrNone}, {40, 1, 1, api.ErrNone}, {40, 1, 2, api.ErrNone}, {40, 1, 1 << 40, api.ErrNone},
		{4, 2, 18, api.ErrNone}, {1, 64, 300, api.ErrNone}, {1, 61, 294, api.OK}, {1, 61, 293, api.ErrNone}, {1, 62, 294, api.ErrNone},
		{1, 64, 1 << 63, api.OK}, {40, 64, 1 << 63, api.OK}, {40, 1, 1 << 63, api.OK},
	}
	for _, c := range cases {
		got, err := prime.Scan(c.k, c.many, c.below)
		if err != c.want {
			t.Errorf("Scan(%d, %d, %d): got the error %d, want %d", c.k, c.many, c.below, int(err), int(c.want))
		}
		if err != api.OK && len(got) != 0 || err == api.OK && len(got) != c.many {
			t.Errorf("Scan(%d, %d, %d): got %d", c.k, c.many, c.below, got)
		}
	}
}
