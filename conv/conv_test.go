package conv_test

import (
	"math"
	"math/big"
	"math/bits"
	"slices"
	"testing"

	"vinculum/api"
	"vinculum/bigint"
	"vinculum/conv"
	"vinculum/prime"
)

// most is how many numbers two polynomials may have together.
const most = 1 << 20

// source is numbers that look like any others, the same ones in every run.
type source uint64

func (s *source) word() uint64 {
	*s += 0x9e3779b97f4a7c15
	w := uint64(*s)
	w = (w ^ w>>30) * 0xbf58476d1ce4e5b9
	w = (w ^ w>>27) * 0x94d049bb133111eb
	return w ^ w>>31
}

// below is a number from 0 to n less 1.
func (s *source) below(n int) int { return int(s.word() % uint64(n)) }

// words are any, with 0 and the greatest word among them.
func (s *source) words(n int) []uint64 {
	l := make([]uint64, n)
	for i := range l {
		switch l[i] = s.word(); l[i] % 8 {
		case 0:
			l[i] = 0
		case 1:
			l[i] = math.MaxUint64
		}
	}
	return l
}

// times is the product of x and y modulo m, by other means than the program's.
func times(x, y, m uint64) uint64 {
	high, low := bits.Mul64(x%m, y%m)
	return bits.Rem64(high, low, m)
}

func plus(x, y, m uint64) uint64 { return (x%m + y%m) % m }

// plain is the product of two polynomials, place by place, as the definition says.
func plain(a, b []uint64, m uint64) []uint64 {
	if len(a) == 0 || len(b) == 0 {
		return nil
	}
	product := make([]uint64, len(a)+len(b)-1)
	for i, x := range a {
		for j, y := range b {
			product[i+j] = plus(product[i+j], times(x, y, m), m)
		}
	}
	return product
}

// plainExact is plain over the integers, as texts.
func plainExact(a, b []uint64) []string {
	if len(a) == 0 || len(b) == 0 {
		return nil
	}
	sums := make([]big.Int, len(a)+len(b)-1)
	for i, x := range a {
		for j, y := range b {
			one := new(big.Int).SetUint64(x)
			one.Mul(one, new(big.Int).SetUint64(y))
			sums[i+j].Add(&sums[i+j], one)
		}
	}
	texts := make([]string, len(sums))
	for i := range sums {
		texts[i] = sums[i].String()
	}
	return texts
}

func textsOf(numbers []bigint.Int) []string {
	texts := make([]string, len(numbers))
	for i, x := range numbers {
		texts[i] = x.Print()
	}
	return texts
}

// moduli are small and great, even and odd, primes and others, with both ends of what
// may be, and with the primes of the greatest plans.
func moduli(t *testing.T) []uint64 {
	t.Helper()
	primes, err := prime.Scan(20, 3, 1<<63)
	if err != api.OK {
		t.Fatalf("Scan: error %d", int(err))
	}
	return append(primes, 2, 3, 4, 5, 10, 97, 1000, 65537, 1<<32, 1<<32+1, 998244353, 1<<61-1, 1<<62, 1<<62+1, 1<<63-25, 1<<63-2, 1<<63-1)
}

// badModuli are words by which no product may be taken.
func badModuli() []uint64 {
	return []uint64{0, 1, 1 << 63, 1<<63 + 1, math.MaxUint64 - 1, math.MaxUint64}
}

// short is a list's beginning, for what a test tells.
func short(l []uint64) []uint64 { return l[:min(len(l), 12)] }

func wantConv(t *testing.T, a, b []uint64, m uint64, want []uint64) {
	t.Helper()
	got, err := conv.Conv(a, b, m)
	if err != api.OK || !slices.Equal(got, want) {
		t.Errorf("Conv of %d and %d numbers, %d and %d, modulo %d: got %d numbers, %d, error %d, want %d, %d", len(a), len(b), short(a), short(b), m, len(got), short(got), int(err), len(want), short(want))
	}
}

func wantConvErr(t *testing.T, a, b []uint64, m uint64, want api.Errno) {
	t.Helper()
	if got, err := conv.Conv(a, b, m); err != want || len(got) != 0 {
		t.Errorf("Conv of %d and %d numbers modulo %d: got %d numbers, error %d, want the error %d", len(a), len(b), m, len(got), int(err), int(want))
	}
}

func wantExact(t *testing.T, a, b []uint64, want []string) {
	t.Helper()
	got, err := conv.Exact(a, b)
	if texts := textsOf(got); err != api.OK || !slices.Equal(texts, want) {
		t.Errorf("Exact of %d and %d: got %s, error %d, want %s", a, b, texts, int(err), want)
	}
}

func TestConv(t *testing.T) { // P8.1
	cases := []struct {
		a, b []uint64
		m    uint64
		want []uint64
	}{
		{[]uint64{1, 2}, []uint64{3, 4}, 5, []uint64{3, 0, 3}}, {[]uint64{1, 2}, []uint64{3, 4}, 1000, []uint64{3, 10, 8}},
		{[]uint64{9}, []uint64{9}, 2, []uint64{1}}, {[]uint64{1, 1}, []uint64{1, 1}, 2, []uint64{1, 0, 1}},
		{[]uint64{1, 0, 0}, []uint64{5, 0}, 7, []uint64{5, 0, 0, 0}}, {[]uint64{0}, []uint64{0}, 7, []uint64{0}}, {[]uint64{0, 0}, []uint64{1, 2, 3}, 7, []uint64{0, 0, 0, 0}},
		{[]uint64{7, 14}, []uint64{8, 9}, 7, []uint64{0, 0, 0}}, {[]uint64{math.MaxUint64}, []uint64{math.MaxUint64}, 1<<63 - 1, []uint64{1}},
		{[]uint64{1<<63 - 2, 1}, []uint64{1<<63 - 2, 1}, 1<<63 - 1, []uint64{1, 1<<63 - 3, 1}}, {[]uint64{1 << 31}, []uint64{1 << 31}, 1 << 62, []uint64{0}},
		{[]uint64{1 << 63, 1}, []uint64{2}, 1<<62 + 1, []uint64{1<<62 - 3, 2}},
	}
	for _, c := range cases {
		wantConv(t, c.a, c.b, c.m, c.want)
		wantConv(t, c.b, c.a, c.m, c.want)
	}
}

func TestConvOfAllShortLengths(t *testing.T) { // P8.1
	s := source(1)
	for i := range 12 {
		for j := range 12 {
			a, b := s.words(i), s.words(j)
			for _, m := range moduli(t) {
				wantConv(t, a, b, m, plain(a, b, m))
			}
		}
	}
}

func TestConvOfLongerLists(t *testing.T) { // P8.1: each side of a power of 2 too
	s := source(2)
	for k := 3; k <= 9; k++ {
		for _, many := range []int{1<<k - 1, 1 << k, 1<<k + 1} {
			i := 1 + s.below(many)
			a, b := s.words(i), s.words(many+1-i)
			for _, m := range []uint64{2, 1 << 62, 1<<63 - 25, 1<<63 - 1} {
				wantConv(t, a, b, m, plain(a, b, m))
			}
		}
	}
}

func TestConvWithNone(t *testing.T) { // P8.1: the other one may have any length
	for _, none := range [][]uint64{nil, {}} {
		for _, n := range []int{0, 1, 2, 1000, most - 1, most, most + 1, 2*most + 3} {
			some := make([]uint64, n)
			wantConv(t, none, some, 7, nil)
			wantConv(t, some, none, 7, nil)
			for _, list := range [][2][]uint64{{none, some}, {some, none}} {
				if got, err := conv.Exact(list[0], list[1]); len(got) != 0 || err != api.OK {
					t.Errorf("Exact of none and %d numbers: got %d, error %d", n, len(got), int(err))
				}
			}
		}
	}
}

func TestConvOfBadModuli(t *testing.T) { // P8.1: named first, so it goes ahead of the limit
	long := make([]uint64, most)
	for _, m := range badModuli() {
		for _, a := range [][]uint64{nil, {}, {1}, {1, 2, 3}, long} {
			wantConvErr(t, a, []uint64{1}, m, api.ErrArg)
			wantConvErr(t, []uint64{1}, a, m, api.ErrArg)
			wantConvErr(t, a, nil, m, api.ErrArg)
			wantConvErr(t, nil, a, m, api.ErrArg)
		}
	}
}

func TestTooManyNumbers(t *testing.T) { // P8.1
	long := make([]uint64, most+1)
	for _, i := range []int{1, 2, 1000, most / 2, most - 1, most, most + 1} {
		a := long[:i]
		for _, b := range [][]uint64{long[:max(1, most+1-i)], long[:most], long} {
			wantConvErr(t, a, b, 7, api.ErrLimit)
			wantConvErr(t, b, a, 1<<63-1, api.ErrLimit)
			if got, err := conv.Exact(a, b); len(got) != 0 || err != api.ErrLimit {
				t.Errorf("Exact of %d and %d numbers: got %d, error %d", len(a), len(b), len(got), int(err))
			}
		}
	}
}

func TestExact(t *testing.T) { // P8.1
	wantExact(t, []uint64{math.MaxUint64}, []uint64{2}, []string{"36893488147419103230"})
	wantExact(t, []uint64{math.MaxUint64, 1}, []uint64{math.MaxUint64, 2}, []string{"340282366920938463426481119284349108225", "55340232221128654845", "2"})
	wantExact(t, []uint64{1, 2}, []uint64{3, 4}, []string{"3", "10", "8"})
	wantExact(t, []uint64{0}, []uint64{0}, []string{"0"})
	wantExact(t, []uint64{0, 1, 0}, []uint64{0, 5}, []string{"0", "0", "5", "0"})
	wantExact(t, []uint64{1 << 63}, []uint64{1 << 63}, []string{"85070591730234615865843651857942052864"})
}

func TestExactOfAllShortLengths(t *testing.T) { // P8.1
	s := source(3)
	for i := range 12 {
		for j := range 12 {
			a, b := s.words(i), s.words(j)
			wantExact(t, a, b, plainExact(a, b))
		}
	}
}

func TestExactOfLongerLists(t *testing.T) { // P8.1
	s := source(4)
	for _, many := range []int{31, 32, 33, 200, 511, 512, 513} {
		i := 1 + s.below(many)
		a, b := s.words(i), s.words(many+1-i)
		wantExact(t, a, b, plainExact(a, b))
	}
}

func TestGreatestSums(t *testing.T) { // P8.1: as long as may be, of the greatest words
	for _, less := range []int{most / 2, most / 3, 1} {
		more := most - less
		got, err := conv.Exact(slices.Repeat([]uint64{math.MaxUint64}, less), slices.Repeat([]uint64{math.MaxUint64}, more))
		if err != api.OK || len(got) != most-1 {
			t.Fatalf("Exact of %d and %d numbers: got %d, error %d", less, more, len(got), int(err))
		}
		square := bigint.From(false, []uint64{math.MaxUint64}).Mul(bigint.From(false, []uint64{math.MaxUint64}))
		for i, x := range got {
			times := min(i+1, less, most-1-i)
			if x.Cmp(square.Mul(bigint.Of(times))) != 0 {
				t.Fatalf("Exact of %d and %d numbers: got %s at %d, want %d squares", less, more, x.Print(), i, times)
			}
		}
	}
}

// valueAt is that of a polynomial at x.
func valueAt(l []uint64, x, m uint64) uint64 {
	y := uint64(0)
	for i := len(l) - 1; i >= 0; i-- {
		y = plus(times(y, x, m), l[i], m)
	}
	return y
}

func TestGreatestProducts(t *testing.T) { // P8.1: as many numbers as may be
	s := source(5)
	for i, m := range []uint64{1<<63 - 1, 1 << 62, 998244353} {
		less := []int{1, most / 2, most / 5}[i]
		a, b := s.words(less), s.words(most-less)
		got, err := conv.Conv(a, b, m)
		if err != api.OK || len(got) != most-1 || slices.Max(got) >= m {
			t.Fatalf("Conv of %d and %d numbers: got %d, error %d", len(a), len(b), len(got), int(err))
		}
		for range 4 {
			x := s.word()
			if y, want := valueAt(got, x, m), times(valueAt(a, x, m), valueAt(b, x, m), m); y != want {
				t.Errorf("Conv of %d and %d numbers modulo %d: at %d got %d, want %d", len(a), len(b), m, x, y, want)
			}
		}
	}
}
