package upoly_test

import (
	"math"
	"slices"
	"testing"

	"vinculum/api"
	"vinculum/conv"
	"vinculum/upoly"
)

// most is how many coefficients two polynomials may have together, by primes.
const most = 1 << 20

func wantMul(t *testing.T, f *upoly.Field, a, b poly, way int, want poly) {
	t.Helper()
	got, err := f.Mul(a, b, way)
	if err != api.OK || !slices.Equal(got, want) {
		t.Errorf("modulo %d: Mul of %d and %d coefficients, %d and %d, by the way %d: got %d, %d, error %d, want %d, %d", f.P(), len(a), len(b), short(a), short(b), way, len(got), short(got), int(err), len(want), short(want))
	}
}

func wantMulErr(t *testing.T, f *upoly.Field, a, b poly, way int, want api.Errno) {
	t.Helper()
	if got, err := f.Mul(a, b, way); err != want || len(got) != 0 {
		t.Errorf("Mul of %d and %d coefficients by the way %d: got %d, error %d, want the error %d", len(a), len(b), way, len(got), int(err), int(want))
	}
}

func TestMul(t *testing.T) { // P9.1
	cases := []struct {
		p          uint64
		a, b, want poly
	}{
		{7, poly{1, 1}, poly{1, 6}, poly{1, 0, 6}}, {7, poly{1, 2, 3}, poly{4, 5}, poly{4, 6, 1, 1}}, {7, nil, poly{1}, nil}, {7, poly{7}, poly{1, 2}, nil}, {7, nil, nil, nil},
		{7, poly{0, 0, 3}, poly{0, 5, 0}, poly{0, 0, 0, 1}}, {7, poly{3}, poly{5}, poly{1}}, {7, poly{1}, poly{9, 7, 8, 0}, poly{2, 0, 1}}, {7, poly{0, 0}, poly{0}, nil},
		{2, poly{1, 1}, poly{1, 1}, poly{1, 0, 1}}, {2, poly{1, 1, 1}, poly{3, 5}, poly{1, 0, 0, 1}}, {2, poly{math.MaxUint64}, poly{math.MaxUint64}, poly{1}},
		{greatest, poly{greatest - 1, 1}, poly{greatest - 1, 1}, poly{1, greatest - 2, 1}}, {greatest, poly{math.MaxUint64}, poly{math.MaxUint64}, poly{2401}},
	}
	for _, c := range cases {
		f := fieldOf(t, c.p)
		for way := range 4 {
			wantMul(t, f, c.a, c.b, way, c.want)
			wantMul(t, f, c.b, c.a, way, c.want)
		}
	}
}

func TestMulOfAllShortLengths(t *testing.T) { // P9.1: whichever way
	s := source(11)
	for _, p := range primes() {
		f := fieldOf(t, p)
		for i := range 9 {
			for j := range 9 {
				a, b := s.words(i), s.words(j)
				for way := range 4 {
					wantMul(t, f, a, b, way, productOf(a, b, p))
				}
			}
		}
	}
}

func TestMulOfAllSmallPolynomials(t *testing.T) { // P9.1
	for p, n := range map[uint64]int{2: 4, 3: 3} {
		f := fieldOf(t, p)
		for _, a := range allOf(p, n) {
			for _, b := range allOf(p, n) {
				for way := range 4 {
					wantMul(t, f, a, b, way, productOf(a, b, p))
				}
			}
		}
	}
}

// lengths are on both sides of those at which another way is chosen or a half is
// odd, and one much shorter than the other among them.
func lengths() [][2]int {
	return [][2]int{
		{63, 63}, {63, 64}, {64, 64}, {65, 64}, {64, 127}, {64, 128}, {64, 129}, {65, 129}, {66, 129}, {65, 130}, {100, 163}, {127, 127}, {127, 128}, {128, 128}, {129, 129},
		{130, 200}, {1, 500}, {63, 500}, {64, 500}, {70, 1000}, {255, 257}, {300, 300}, {301, 600}, {511, 513},
	}
}

func TestMulOfLongerLists(t *testing.T) { // P9.1: whichever way
	s := source(12)
	for _, p := range []uint64{2, 3, 65537, greatest} {
		f := fieldOf(t, p)
		for _, n := range lengths() {
			a, b := s.words(n[0]), s.words(n[1])
			want := productOf(a, b, p)
			for way := range 4 {
				wantMul(t, f, a, b, way, want)
				wantMul(t, f, b, a, way, want)
			}
		}
	}
}

func TestMulOfGreatestCoefficients(t *testing.T) { // P9.1: no sum of products is too great for what it is added up in
	f := fieldOf(t, greatest)
	for _, n := range []int{1, 2, 3, 4, 5, 8, 16, 63, 64, 65, 200, 1000, 3000, 4000} {
		row := slices.Repeat(poly{greatest - 1}, n)
		want := make(poly, 2*n-1)
		for i := range want {
			want[i] = uint64(min(i+1, 2*n-1-i))
		}
		for way := range 4 {
			wantMul(t, f, row, row, way, want)
		}
	}
}

func TestMulByWays(t *testing.T) { // P9.1: around the length from which primes are chosen
	s := source(13)
	for _, p := range []uint64{2, 998244353, greatest} {
		f := fieldOf(t, p)
		for _, n := range [][2]int{{2999, 3000}, {3000, 3000}, {3001, 3500}, {2999, 6100}, {3000, 9000}} {
			a, b := s.ofDeg(n[0]-1), s.ofDeg(n[1]-1)
			want, err := f.Mul(a, b, 1)
			if err != api.OK || len(want) != n[0]+n[1]-1 {
				t.Fatalf("Mul of %d and %d coefficients: got %d, error %d", n[0], n[1], len(want), int(err))
			}
			for _, way := range []int{0, 2, 3} {
				wantMul(t, f, a, b, way, want)
			}
		}
	}
}

func TestMulOfWaysThatAreNone(t *testing.T) { // P9.1
	f := fieldOf(t, 7)
	long := slices.Repeat(poly{1}, most)
	for _, way := range []int{-1, 4, 5, 100, math.MaxInt, math.MinInt} {
		for _, a := range []poly{nil, {0}, {1}, {1, 2, 3}, long} {
			wantMulErr(t, f, a, poly{1}, way, api.ErrArg)
			wantMulErr(t, f, poly{1}, a, way, api.ErrArg)
			wantMulErr(t, f, a, nil, way, api.ErrArg)
		}
	}
}

// wantValues holds a product against the values of its factors.
func wantValues(t *testing.T, f *upoly.Field, a, b, product poly) {
	t.Helper()
	s := source(14)
	p := f.P()
	if len(product) != len(a)+len(b)-1 || slices.Max(product) >= p {
		t.Fatalf("Mul of %d and %d coefficients: got %d", len(a), len(b), len(product))
	}
	for range 3 {
		x := s.word()
		if got, want := valueOf(product, x, p), times(valueOf(a, x, p), valueOf(b, x, p), p); got != want {
			t.Errorf("modulo %d: Mul of %d and %d coefficients: at %d got %d, want %d", p, len(a), len(b), x, got, want)
		}
	}
}

func TestMulAtTheLimit(t *testing.T) { // P9.1: by primes up to it alone, by other ways beyond it
	s := source(15)
	f := fieldOf(t, greatest)
	long := s.ofDeg(most)
	for _, less := range []int{1, 3000, most/2 - 5} {
		a, fits, tooLong := s.ofDeg(less-1), long[less+1:], long[less:]
		product, err := f.Mul(a, fits, 3)
		if err != api.OK || len(a)+len(fits) != most {
			t.Fatalf("Mul of %d and %d coefficients by primes: error %d", len(a), len(fits), int(err))
		}
		wantValues(t, f, a, fits, product)
		wantMulErr(t, f, a, tooLong, 3, api.ErrLimit)
		wantMulErr(t, f, tooLong, a, 3, api.ErrLimit)
		if product, err = f.Mul(a, tooLong, 0); err != api.OK {
			t.Fatalf("Mul of %d and %d coefficients by one's own choice: error %d", len(a), len(tooLong), int(err))
		}
		wantValues(t, f, a, tooLong, product)
	}
}

func TestMulOfLongListsByOtherWays(t *testing.T) { // P9.1: no limit but of the way 3
	s := source(16)
	f := fieldOf(t, 1<<61-1)
	a, b := s.ofDeg(70), s.ofDeg(most)
	for way := range 3 {
		product, err := f.Mul(a, b, way)
		if err != api.OK {
			t.Fatalf("Mul of %d and %d coefficients by the way %d: error %d", len(a), len(b), way, int(err))
		}
		wantValues(t, f, a, b, product)
	}
}

func TestMulLimitCountsCoefficients(t *testing.T) { // P9.1: those that are 0 at the end do not count
	f := fieldOf(t, 7)
	long := make(poly, most+5)
	for i := 3; i < len(long); i++ {
		long[i] = 7
	}
	long[0], long[1] = 3, 8
	for way := range 4 {
		wantMul(t, f, long, long, way, poly{2, 6, 1})
		wantMul(t, f, long, long[2:], way, nil)
		wantMul(t, f, long[2:], slices.Repeat(poly{1}, most+5), way, nil)
	}
}

func TestMulByPrimesIsConv(t *testing.T) { // P9.1
	s := source(17)
	for _, p := range primes() {
		f := fieldOf(t, p)
		for range 20 {
			a, b := s.ofDeg(s.below(80)), s.ofDeg(s.below(80))
			want, err := conv.Conv(a, b, p)
			if err != api.OK {
				t.Fatalf("Conv: error %d", int(err))
			}
			wantMul(t, f, a, b, 3, want)
		}
	}
}
