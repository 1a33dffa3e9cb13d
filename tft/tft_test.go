package tft_test

import (
	"math"
	"math/bits"
	"slices"
	"testing"

	"vinculum/api"
	"vinculum/prime"
	"vinculum/tft"
)

// source is numbers that look like any others, the same ones in every run.
type source uint64

func (s *source) word() uint64 {
	*s += 0x9e3779b97f4a7c15
	w := uint64(*s)
	w = (w ^ w>>30) * 0xbf58476d1ce4e5b9
	w = (w ^ w>>27) * 0x94d049bb133111eb
	return w ^ w>>31
}

// below is a number from 0 to n less 1.
func (s *source) below(n int) int { return int(s.word() % uint64(n)) }

// words are any, far beyond p too, with 0 and the greatest word among them.
func (s *source) words(n int) []uint64 {
	l := make([]uint64, n)
	for i := range l {
		switch l[i] = s.word(); l[i] % 8 {
		case 0:
			l[i] = 0
		case 1:
			l[i] = math.MaxUint64
		}
	}
	return l
}

// size is a prime and a k for which there is a plan.
type size struct {
	p uint64
	k int
}

// greatPrimes are the greatest below 2 to the 63rd and 32nd that have every plan.
func greatPrimes(t *testing.T) []uint64 {
	t.Helper()
	var list []uint64
	for _, below := range []uint64{1 << 63, 1 << 32} {
		l, err := prime.Scan(20, 1, below)
		if err != api.OK {
			t.Fatalf("Scan(20, 1, %d): error %d", below, int(err))
		}
		list = append(list, l...)
	}
	return list
}

// sizes are all there are, up to a k, of small primes, of Fermat's and of great ones.
func sizes(t *testing.T, most int) []size {
	t.Helper()
	primes := append(greatPrimes(t), 2, 3, 5, 7, 11, 13, 17, 97, 193, 257, 7681, 12289, 65537, 998244353, 1<<61-1, 1<<63-25)
	var list []size
	for _, p := range primes {
		for k := range min(most, bits.TrailingZeros64(p-1)) + 1 {
			list = append(list, size{p, k})
		}
	}
	return list
}

func planOf(t *testing.T, p uint64, k int) *tft.Plan {
	t.Helper()
	plan, err := tft.New(p, k)
	if err != api.OK || plan == nil {
		t.Fatalf("New(%d, %d): error %d", p, k, int(err))
	}
	return plan
}

// times is the product of x and y modulo p, by other means than the program's.
func times(x, y, p uint64) uint64 {
	high, low := bits.Mul64(x%p, y%p)
	return bits.Rem64(high, low, p)
}

func plus(x, y, p uint64) uint64 { return (x%p + y%p) % p }

// about is the k bits of i, the other way about, bit by bit.
func about(i, k int) int {
	n := 0
	for range k {
		n = 2*n + i%2
		i /= 2
	}
	return n
}

// pointsOf are those of a plan, as the definition says.
func pointsOf(t *testing.T, p uint64, k int) []uint64 {
	t.Helper()
	root, err := prime.Root(p, k)
	if err != api.OK {
		t.Fatalf("Root(%d, %d): error %d", p, k, int(err))
	}
	points := make([]uint64, 1<<k)
	x := 1 % p
	for i := range points {
		points[about(i, k)] = x
		x = times(x, root, p)
	}
	return points
}

// valueAt is that of a polynomial at x.
func valueAt(l []uint64, x, p uint64) uint64 {
	y := uint64(0)
	for i := len(l) - 1; i >= 0; i-- {
		y = plus(times(y, x, p), l[i], p)
	}
	return y
}

// valuesAt are those of a polynomial at some points.
func valuesAt(l, points []uint64, p uint64) []uint64 {
	values := make([]uint64, len(points))
	for i, x := range points {
		values[i] = valueAt(l, x, p)
	}
	return values
}

func leftBy(l []uint64, p uint64) []uint64 {
	left := make([]uint64, len(l))
	for i, x := range l {
		left[i] = x % p
	}
	return left
}

func wantList(t *testing.T, s size, what string, got []uint64, err api.Errno, want []uint64) {
	t.Helper()
	if err != api.OK || !slices.Equal(got, want) {
		if len(want) > 16 {
			t.Errorf("p %d, k %d: %s: got other numbers (%d of them, error %d, want %d)", s.p, s.k, what, len(got), int(err), len(want))
			return
		}
		t.Errorf("p %d, k %d: %s: got %d, error %d, want %d", s.p, s.k, what, got, int(err), want)
	}
}

func wantErr(t *testing.T, s size, what string, got []uint64, err, want api.Errno) {
	t.Helper()
	if err != want || len(got) != 0 {
		t.Errorf("p %d, k %d: %s: got %d numbers, error %d, want the error %d", s.p, s.k, what, len(got), int(err), int(want))
	}
}

func TestTurned(t *testing.T) { // P7.1
	for k := range 21 {
		for i := range 1 << k {
			if got, err := tft.Turned(i, k); got != about(i, k) || err != api.OK {
				t.Fatalf("Turned(%d, %d): got %d, error %d, want %d", i, k, got, int(err), about(i, k))
			}
		}
	}
	cases := []struct{ i, k, want int }{{0, 0, 0}, {0, 1, 0}, {1, 1, 1}, {1, 2, 2}, {2, 2, 1}, {3, 2, 3}, {1, 3, 4}, {6, 3, 3}, {1, 20, 1 << 19}, {1<<20 - 1, 20, 1<<20 - 1}}
	for _, c := range cases {
		if got, err := tft.Turned(c.i, c.k); got != c.want || err != api.OK {
			t.Errorf("Turned(%d, %d): got %d, error %d, want %d", c.i, c.k, got, int(err), c.want)
		}
	}
}

func TestTurnedErrors(t *testing.T) { // P7.1
	for k := range 21 {
		for _, i := range []int{-1, math.MinInt, 1 << k, 1<<k + 1, 2 << k, math.MaxInt} {
			if got, err := tft.Turned(i, k); got != 0 || err != api.ErrArg {
				t.Errorf("Turned(%d, %d): got %d, error %d", i, k, got, int(err))
			}
		}
	}
	for _, k := range []int{-1, -64, math.MinInt, 21, 62, 63, 64, 65, math.MaxInt} {
		for _, i := range []int{-1, 0, 1, 1<<20 - 1, 1 << 20, math.MinInt, math.MaxInt} {
			if got, err := tft.Turned(i, k); got != 0 || err != api.ErrArg {
				t.Errorf("Turned(%d, %d): got %d, error %d", i, k, got, int(err))
			}
		}
	}
}

func TestNewErrors(t *testing.T) { // P7.1: the first that is named is answered
	great := greatPrimes(t)[0]
	cases := []struct {
		p    uint64
		k    int
		want api.Errno
	}{
		{17, 21, api.ErrLimit}, {998244353, 21, api.ErrLimit}, {great, 21, api.ErrLimit}, {17, 64, api.ErrLimit}, {17, math.MaxInt, api.ErrLimit},
		{15, 21, api.ErrLimit}, {0, 21, api.ErrLimit}, {1, math.MaxInt, api.ErrLimit}, {math.MaxUint64, 21, api.ErrLimit}, {1 << 63, 63, api.ErrLimit},
		{0, 0, api.ErrPrime}, {1, 0, api.ErrPrime}, {4, 0, api.ErrPrime}, {15, 1, api.ErrPrime}, {561, 4, api.ErrPrime}, {65536, 20, api.ErrPrime},
		{0, -1, api.ErrPrime}, {1, 20, api.ErrPrime}, {15, -1, api.ErrPrime}, {15, 20, api.ErrPrime}, {9, math.MinInt, api.ErrPrime},
		{1<<63 - 1, 0, api.ErrPrime}, {1 << 63, 0, api.ErrPrime}, {18446744069414584321, 20, api.ErrPrime}, {18446744073709551557, 0, api.ErrPrime},
		{math.MaxUint64, 0, api.ErrPrime},
		{17, -1, api.ErrArg}, {17, math.MinInt, api.ErrArg}, {2, -1, api.ErrArg}, {great, -1, api.ErrArg},
		{17, 5, api.ErrArg}, {17, 20, api.ErrArg}, {2, 1, api.ErrArg}, {2, 20, api.ErrArg}, {3, 2, api.ErrArg}, {7, 2, api.ErrArg}, {65537, 17, api.ErrArg},
		{12289, 13, api.ErrArg}, {1<<63 - 25, 2, api.ErrArg}, {1<<61 - 1, 2, api.ErrArg},
		{17, 4, api.OK}, {2, 0, api.OK}, {3, 1, api.OK}, {65537, 16, api.OK}, {12289, 12, api.OK}, {1<<63 - 25, 1, api.OK}, {great, 20, api.OK},
	}
	for _, c := range cases {
		plan, err := tft.New(c.p, c.k)
		if err != c.want || (plan == nil) != (c.want != api.OK) {
			t.Errorf("New(%d, %d): got a plan: %t, error %d, want %d", c.p, c.k, plan != nil, int(err), int(c.want))
		}
	}
}

func wantPoints(t *testing.T, z size, plan *tft.Plan, want []uint64) {
	t.Helper()
	if plan.Most() != len(want) {
		t.Errorf("p %d, k %d: Most: got %d, want %d", z.p, z.k, plan.Most(), len(want))
	}
	for i, x := range want {
		if got, err := plan.Point(i); got != x || err != api.OK {
			t.Fatalf("p %d, k %d: Point(%d): got %d, error %d, want %d", z.p, z.k, i, got, int(err), x)
		}
	}
}

func TestPoints(t *testing.T) { // P7.1
	wantPoints(t, size{17, 2}, planOf(t, 17, 2), []uint64{1, 16, 13, 4})
	wantPoints(t, size{2, 0}, planOf(t, 2, 0), []uint64{1})
	wantPoints(t, size{3, 1}, planOf(t, 3, 1), []uint64{1, 2})
	wantPoints(t, size{5, 2}, planOf(t, 5, 2), []uint64{1, 4, 2, 3})
	for _, z := range append(sizes(t, 12), size{998244353, 20}, size{greatPrimes(t)[0], 20}) {
		wantPoints(t, z, planOf(t, z.p, z.k), pointsOf(t, z.p, z.k))
	}
}

func TestPointErrors(t *testing.T) { // P7.1
	for _, z := range append(sizes(t, 4), size{998244353, 20}) {
		plan := planOf(t, z.p, z.k)
		for _, i := range []int{-1, math.MinInt, 1 << z.k, 1<<z.k + 1, 2 << z.k, math.MaxInt} {
			if got, err := plan.Point(i); got != 0 || err != api.ErrArg {
				t.Errorf("p %d, k %d: Point(%d): got %d, error %d", z.p, z.k, i, got, int(err))
			}
		}
	}
}
