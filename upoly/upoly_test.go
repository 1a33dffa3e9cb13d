package upoly_test

import (
	"math"
	"math/bits"
	"slices"
	"testing"

	"vinculum/api"
	"vinculum/upoly"
)

type poly = upoly.Poly

// greatest is the greatest prime of a field.
const greatest = 1<<63 - 25

// source is numbers that look like any others, the same ones in every run.
type source uint64

func (s *source) word() uint64 {
	*s += 0x9e3779b97f4a7c15
	w := uint64(*s)
	w = (w ^ w>>30) * 0xbf58476d1ce4e5b9
	w = (w ^ w>>27) * 0x94d049bb133111eb
	return w ^ w>>31
}

// below is a number from 0 to n less 1.
func (s *source) below(n int) int { return int(s.word() % uint64(n)) }

// words are any, with 0 and the greatest word among them.
func (s *source) words(n int) poly {
	l := make(poly, n)
	for i := range l {
		switch l[i] = s.word(); l[i] % 8 {
		case 0:
			l[i] = 0
		case 1:
			l[i] = math.MaxUint64
		}
	}
	return l
}

// ofDeg is a polynomial of that degree modulo every prime.
func (s *source) ofDeg(deg int) poly { return append(s.words(deg), 1) }

// times is the product of x and y modulo p, by other means than the program's.
func times(x, y, p uint64) uint64 {
	high, low := bits.Mul64(x%p, y%p)
	return bits.Rem64(high, low, p)
}

func plus(x, y, p uint64) uint64 { return (x%p + y%p) % p }

func minus(x, y, p uint64) uint64 { return (x%p + p - y%p) % p }

func power(x, n, p uint64) uint64 {
	y := 1 % p
	for ; n > 0; n >>= 1 {
		if n&1 == 1 {
			y = times(y, x, p)
		}
		x = times(x, x, p)
	}
	return y
}

// normOf is a polynomial as every answer is to be.
func normOf(a poly, p uint64) poly {
	norm := poly{}
	for i, x := range a {
		if x%p != 0 {
			norm = append(norm, make(poly, i+1-len(norm))...)
			norm[i] = x % p
		}
	}
	return norm
}

func at(a poly, i int) uint64 {
	if i >= len(a) {
		return 0
	}
	return a[i]
}

func sumOf(a, b poly, p uint64) poly {
	sum := make(poly, max(len(a), len(b)))
	for i := range sum {
		sum[i] = plus(at(a, i), at(b, i), p)
	}
	return normOf(sum, p)
}

// productOf is the product, place by place, as the definition says.
func productOf(a, b poly, p uint64) poly {
	product := make(poly, len(a)+len(b))
	for i, x := range a {
		for j, y := range b {
			product[i+j] = plus(product[i+j], times(x, y, p), p)
		}
	}
	return normOf(product, p)
}

// valueOf is the sum of the coefficients, each times its power of x.
func valueOf(a poly, x, p uint64) uint64 {
	value, power := uint64(0), 1%p
	for _, c := range a {
		value = plus(value, times(c, power, p), p)
		power = times(power, x, p)
	}
	return value
}

// primes are small and great ones, with both ends of what may be.
func primes() []uint64 {
	return []uint64{2, 3, 5, 7, 97, 65537, 1<<32 - 5, 1<<32 + 15, 998244353, 1<<61 - 1, greatest}
}

// allOf is every list of n coefficients below p.
func allOf(p uint64, n int) []poly {
	lists := []poly{{}}
	for range n {
		var longer []poly
		for _, l := range lists {
			for x := range p {
				longer = append(longer, append(slices.Clone(l), x))
			}
		}
		lists = longer
	}
	return lists
}

func fieldOf(t *testing.T, p uint64) *upoly.Field {
	t.Helper()
	f, err := upoly.New(p)
	if err != api.OK || f == nil {
		t.Fatalf("New of %d: error %d", p, int(err))
	}
	return f
}

// short is a polynomial's beginning, for what a test tells.
func short(a poly) poly { return a[:min(len(a), 12)] }

func wantPoly(t *testing.T, name string, p uint64, got, want poly) {
	t.Helper()
	if !slices.Equal(got, want) {
		t.Errorf("modulo %d: %s: got %d coefficients, %d, want %d, %d", p, name, len(got), short(got), len(want), short(want))
	}
}

func TestNew(t *testing.T) { // P9.1
	for _, p := range primes() {
		if f := fieldOf(t, p); f.P() != p {
			t.Errorf("New of %d: got the field of %d", p, f.P())
		}
	}
}

func TestNewOfNoPrimes(t *testing.T) { // P9.1: composites, and primes that are too great
	for _, p := range []uint64{0, 1, 4, 6, 9, 91, 561, 3215031751, 1 << 32, 1 << 62, 1<<63 - 1, 1<<63 - 24, 1 << 63, 1<<63 + 29, 18446744073709551557, math.MaxUint64} {
		if f, err := upoly.New(p); f != nil || err != api.ErrPrime {
			t.Errorf("New of %d: got a field %t, error %d", p, f != nil, int(err))
		}
	}
}

func TestNormAndDeg(t *testing.T) { // P9.1
	cases := []struct {
		p    uint64
		a    poly
		want poly
	}{
		{7, nil, nil}, {7, poly{}, nil}, {7, poly{0}, nil}, {7, poly{7}, nil}, {7, poly{0, 7, 14, 21}, nil}, {7, poly{8, 7, 14}, poly{1}},
		{7, poly{1, 2, 3}, poly{1, 2, 3}}, {7, poly{0, 0, 8}, poly{0, 0, 1}}, {7, poly{0, 3, 7}, poly{0, 3}}, {7, poly{1, 0, 1, 0, 0}, poly{1, 0, 1}},
		{2, poly{2, 3, 4}, poly{0, 1}}, {2, poly{math.MaxUint64}, poly{1}}, {2, poly{1, 2}, poly{1}},
		{greatest, poly{math.MaxUint64, greatest, greatest + 1, greatest}, poly{49, 0, 1}}, {greatest, poly{greatest - 1}, poly{greatest - 1}}, {greatest, poly{2 * greatest}, nil},
	}
	for _, c := range cases {
		f := fieldOf(t, c.p)
		wantPoly(t, "Norm", c.p, f.Norm(c.a), c.want)
		if deg := f.Deg(c.a); deg != len(c.want)-1 {
			t.Errorf("modulo %d: Deg of %d: got %d", c.p, c.a, deg)
		}
	}
}

func TestNormOfMany(t *testing.T) { // P9.1
	s := source(1)
	for _, p := range primes() {
		f := fieldOf(t, p)
		for n := range 40 {
			a := append(s.words(n), make(poly, s.below(4))...)
			want := normOf(a, p)
			wantPoly(t, "Norm", p, f.Norm(a), want)
			if deg := f.Deg(a); deg != len(want)-1 {
				t.Errorf("modulo %d: Deg of %d: got %d, want %d", p, a, deg, len(want)-1)
			}
		}
	}
}

func TestAddAndSub(t *testing.T) { // P9.1
	cases := []struct {
		p               uint64
		a, b, sum, less poly
	}{
		{7, poly{1, 2, 3}, poly{6, 5, 4}, nil, poly{2, 4, 6}}, {7, poly{1}, poly{6, 5}, poly{0, 5}, poly{2, 2}}, {7, poly{1}, poly{2, 3}, poly{3, 3}, poly{6, 4}},
		{7, poly{1, 2, 3}, poly{1, 2, 3}, poly{2, 4, 6}, nil}, {7, poly{1, 2, 3}, poly{0, 0, 3}, poly{1, 2, 6}, poly{1, 2}}, {7, poly{1, 2, 3}, poly{0, 0, 4}, poly{1, 2}, poly{1, 2, 6}},
		{7, nil, nil, nil, nil}, {7, poly{8, 7}, nil, poly{1}, poly{1}}, {7, nil, poly{8, 7}, poly{1}, poly{6}}, {7, poly{7, 7}, poly{14}, nil, nil},
		{2, poly{1, 1}, poly{1, 1, 1}, poly{0, 0, 1}, poly{0, 0, 1}},
		{greatest, poly{greatest - 1, 5}, poly{greatest - 1}, poly{greatest - 2, 5}, poly{0, 5}}, {greatest, poly{math.MaxUint64}, poly{math.MaxUint64}, poly{98}, nil},
	}
	for _, c := range cases {
		f := fieldOf(t, c.p)
		wantPoly(t, "Add", c.p, f.Add(c.a, c.b), c.sum)
		wantPoly(t, "Sub", c.p, f.Sub(c.a, c.b), c.less)
	}
}

func TestAddAndSubOfMany(t *testing.T) { // P9.1
	s := source(2)
	for _, p := range primes() {
		f := fieldOf(t, p)
		for range 60 {
			a, b := s.words(s.below(9)), s.words(s.below(9))
			wantPoly(t, "Add", p, f.Add(a, b), sumOf(a, b, p))
			less := slices.Clone(b)
			for i, x := range less {
				less[i] = minus(0, x, p)
			}
			wantPoly(t, "Sub", p, f.Sub(a, b), sumOf(a, less, p))
		}
	}
}

func TestEval(t *testing.T) { // P9.3
	cases := []struct {
		p    uint64
		a    poly
		x    uint64
		want uint64
	}{
		{7, poly{1, 2, 3}, 2, 3}, {7, nil, 5, 0}, {7, poly{8, 9}, 9, 5}, {7, poly{5}, 0, 5}, {7, poly{5, 1}, 0, 5}, {7, poly{5, 1}, 7, 5}, {7, poly{0, 0, 7}, 3, 0},
		{7, poly{12}, 3, 5}, {2, poly{1, 1, 1}, 1, 1}, {2, poly{1, 1}, math.MaxUint64, 0}, {greatest, poly{0, 0, 1}, greatest - 1, 1}, {greatest, poly{math.MaxUint64, 1}, math.MaxUint64, 98},
	}
	for _, c := range cases {
		if got := fieldOf(t, c.p).Eval(c.a, c.x); got != c.want {
			t.Errorf("modulo %d: %d at %d: got %d, want %d", c.p, c.a, c.x, got, c.want)
		}
	}
	s := source(3)
	for _, p := range primes() {
		f := fieldOf(t, p)
		for n := range 50 {
			a, x := s.words(n), s.word()
			if got, want := f.Eval(a, x), valueOf(a, x, p); got != want {
				t.Errorf("modulo %d: %d at %d: got %d, want %d", p, a, x, got, want)
			}
		}
	}
}

func TestDerive(t *testing.T) { // P9.3
	cases := []struct {
		p       uint64
		a, want poly
	}{
		{7, poly{5, 4, 3, 2, 0, 0, 0, 1}, poly{4, 6, 6}}, {7, nil, nil}, {7, poly{}, nil}, {7, poly{5}, nil}, {7, poly{5, 0, 0}, nil}, {7, poly{0, 0, 0, 0, 0, 0, 0, 3}, nil},
		{7, poly{0, 0, 0, 0, 0, 0, 0, 3, 1}, poly{0, 0, 0, 0, 0, 0, 0, 1}}, {7, poly{1, 8, 9}, poly{1, 4}}, {7, poly{1, 2, 7}, poly{2}},
		{2, poly{1, 1, 1, 1}, poly{1, 0, 1}}, {2, poly{1, 0, 1}, nil}, {greatest, poly{0, 0, math.MaxUint64}, poly{0, 98}}, {greatest, poly{1, 0, greatest - 1}, poly{0, greatest - 2}},
	}
	for _, c := range cases {
		wantPoly(t, "Derive", c.p, fieldOf(t, c.p).Derive(c.a), c.want)
	}
	s := source(4)
	for _, p := range primes() {
		f := fieldOf(t, p)
		for n := range 50 {
			a := s.words(n)
			want := make(poly, n)
			for i := 1; i < n; i++ {
				want[i-1] = times(uint64(i), a[i], p)
			}
			wantPoly(t, "Derive", p, f.Derive(a), normOf(want, p))
		}
	}
}

func TestMonic(t *testing.T) { // P9.3
	cases := []struct {
		p       uint64
		a, want poly
	}{
		{7, poly{1, 3}, poly{5, 1}}, {7, poly{7}, nil}, {7, nil, nil}, {7, poly{0, 14, 0}, nil}, {7, poly{4}, poly{1}}, {7, poly{1, 2, 1}, poly{1, 2, 1}}, {7, poly{0, 0, 6, 7}, poly{0, 0, 1}},
		{7, poly{8, 10}, poly{5, 1}}, {2, poly{1, 1}, poly{1, 1}}, {2, poly{3, 0, 5, 2}, poly{1, 0, 1}}, {greatest, poly{1, greatest - 1}, poly{greatest - 1, 1}}, {greatest, poly{98, math.MaxUint64}, poly{2, 1}},
	}
	for _, c := range cases {
		wantPoly(t, "Monic", c.p, fieldOf(t, c.p).Monic(c.a), c.want)
	}
	s := source(5)
	for _, p := range primes() {
		f := fieldOf(t, p)
		for n := range 50 {
			a := normOf(s.words(n+1), p)
			got := f.Monic(a)
			if len(got) != len(a) || len(a) > 0 && got[len(a)-1] != 1 {
				t.Fatalf("modulo %d: Monic of %d: got %d", p, a, got)
			}
			if len(a) > 0 {
				wantPoly(t, "Monic, multiplied back", p, productOf(got, a[len(a)-1:], p), a)
			}
		}
	}
}
