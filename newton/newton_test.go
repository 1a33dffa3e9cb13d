package newton_test

import (
	"math"
	"math/bits"
	"slices"
	"testing"

	"vinculum/api"
	"vinculum/newton"
	"vinculum/upoly"
)

type (
	poly = upoly.Poly
	row  = []uint64
)

// greatest is the greatest prime of a field.
const greatest = 1<<63 - 25

// most is how many places may be.
const most = 4096

// source is numbers that look like any others, the same ones in every run.
type source uint64

func (s *source) word() uint64 {
	*s += 0x9e3779b97f4a7c15
	w := uint64(*s)
	w = (w ^ w>>30) * 0xbf58476d1ce4e5b9
	w = (w ^ w>>27) * 0x94d049bb133111eb
	return w ^ w>>31
}

// below is a number from 0 to n less 1.
func (s *source) below(n int) int { return int(s.word() % uint64(n)) }

// words are any, with 0 and the greatest word among them.
func (s *source) words(n int) row {
	l := make(row, n)
	for i := range l {
		switch l[i] = s.word(); l[i] % 8 {
		case 0:
			l[i] = 0
		case 1:
			l[i] = math.MaxUint64
		}
	}
	return l
}

// places are n numbers of which no two are the same modulo p, each as any word that leaves it;
// all of them, where p is no greater.
func (s *source) places(n int, p uint64) row {
	if uint64(n) >= p {
		return s.mixedUp(rowTo(p))
	}
	told := map[uint64]int{}
	l := make(row, 0, n)
	for len(l) < n {
		x := s.word()
		if x%4 == 0 {
			x %= p // numbers below p come too
		}
		if told[x%p]++; told[x%p] == 1 {
			l = append(l, x)
		}
	}
	return l
}

// mixedUp puts a list into another order.
func (s *source) mixedUp(l row) row {
	for i := range l {
		j := s.below(i + 1)
		l[i], l[j] = l[j], l[i]
	}
	return l
}

// rowTo is the numbers from 0 to n less 1.
func rowTo(n uint64) row {
	l := make(row, n)
	for i := range l {
		l[i] = uint64(i)
	}
	return l
}

// times is the product of x and y modulo p, by other means than the program's.
func times(x, y, p uint64) uint64 {
	high, low := bits.Mul64(x%p, y%p)
	return bits.Rem64(high, low, p)
}

func plus(x, y, p uint64) uint64 { return (x%p + y%p) % p }

// primes are small and great ones, with both ends of what may be.
func primes() []uint64 {
	return []uint64{2, 3, 5, 7, 97, 65537, 1<<32 - 5, 1<<32 + 15, 998244353, 1<<61 - 1, greatest}
}

// noPrimes are composites, and primes that are too great.
func noPrimes() []uint64 {
	return []uint64{0, 1, 4, 6, 9, 91, 561, 3215031751, 1 << 32, 1 << 62, 1<<63 - 1, 1<<63 - 24, 1 << 63, 1<<63 + 29, 18446744073709551557, math.MaxUint64}
}

// lengths are on both sides of those at which values are found by another way, and odd ones.
func lengths() []int {
	return []int{0, 1, 2, 3, 4, 5, 7, 8, 9, 10, 15, 16, 17, 18, 31, 32, 33, 40, 63, 64, 65, 100, 127, 129, 200}
}

// allOf is every list of n numbers below p.
func allOf(p uint64, n int) []row {
	lists := []row{{}}
	for range n {
		var longer []row
		for _, l := range lists {
			for x := range p {
				longer = append(longer, append(slices.Clone(l), x))
			}
		}
		lists = longer
	}
	return lists
}

// short is a list's beginning, for what a test tells.
func short(l []uint64) []uint64 { return l[:min(len(l), 12)] }

// valueOf is the sum of the coefficients, each times its power of x.
func valueOf(a poly, x, p uint64) uint64 {
	value, power := uint64(0), 1%p
	for _, c := range a {
		value = plus(value, times(c, power, p), p)
		power = times(power, x, p)
	}
	return value
}

func valuesOf(a poly, l row, p uint64) row {
	v := make(row, len(l))
	for i, x := range l {
		v[i] = valueOf(a, x, p)
	}
	return v
}

// left is what is left of each number.
func left(l row, p uint64) row {
	l = slices.Clone(l)
	for i := range l {
		l[i] %= p
	}
	return l
}

// normOf is a polynomial as it is to be answered.
func normOf(a poly, p uint64) poly {
	a = left(a, p)
	for len(a) > 0 && a[len(a)-1] == 0 {
		a = a[:len(a)-1]
	}
	return a
}

func wantValues(t *testing.T, p uint64, a poly, l, want row) {
	t.Helper()
	if v, err := newton.Values(p, a, l); !slices.Equal(v, want) || err != api.OK {
		t.Errorf("modulo %d: Values of %d coefficients, %d, at %d places, %d: got %d, error %d, want %d", p, len(a), short(a), len(l), short(l), short(v), int(err), short(want))
	}
}

func TestNoPrimes(t *testing.T) { // P12.1 to P12.3: composites, and primes that are too great; ahead of all other errors
	for _, p := range noPrimes() {
		for _, l := range []row{nil, {1}, {1, 1}, make(row, most+1)} {
			for _, v := range []row{nil, {1}, {1, 2}, make(row, most+1)} {
				if got, err := newton.Values(p, v, l); len(got) != 0 || err != api.ErrPrime {
					t.Errorf("Values modulo %d: got %d, error %d", p, short(got), int(err))
				}
				if a, err := newton.Fit(p, l, v); len(a) != 0 || err != api.ErrPrime {
					t.Errorf("Fit modulo %d: got %d, error %d", p, short(a), int(err))
				}
				if c, err := newton.Sums(p, l, v); len(c) != 0 || err != api.ErrPrime {
					t.Errorf("Sums modulo %d: got %d, error %d", p, short(c), int(err))
				}
			}
		}
		if r, err := newton.New(p); r != nil || err != api.ErrPrime {
			t.Errorf("New of %d: got %v, error %d", p, r, int(err))
		}
	}
}

func TestValues(t *testing.T) { // P12.1
	cases := []struct {
		p       uint64
		a       poly
		l, want row
	}{
		{7, poly{0, 0, 1}, row{1, 2, 3}, row{1, 4, 2}}, {7, poly{0, 0, 1}, row{3, 3, 10, 1}, row{2, 2, 2, 1}}, {7, poly{5}, row{0, 6}, row{5, 5}}, {7, poly{12}, row{0}, row{5}}, {7, nil, row{4, 5}, row{0, 0}}, {7, poly{0, 7}, row{4, 5}, row{0, 0}}, {7, poly{3, 1}, nil, nil},
		{7, nil, nil, nil}, {7, poly{3, 1, 4}, row{0, 7}, row{3, 3}}, {7, poly{8, 8, 0, 0}, row{6, 13, 5}, row{0, 0, 6}}, {2, poly{1, 1}, row{0, 1, 2, 3}, row{1, 0, 1, 0}}, {2, poly{1, 1, 1}, row{0, 1, math.MaxUint64}, row{1, 1, 1}},
		{greatest, poly{0, 1}, row{math.MaxUint64, greatest, greatest - 1}, row{49, 0, greatest - 1}}, {greatest, poly{math.MaxUint64, 0, 1}, row{greatest - 1, 2}, row{50, 53}},
	}
	for _, c := range cases {
		wantValues(t, c.p, c.a, c.l, c.want)
	}
}

func TestValuesOfAllSmallPolynomials(t *testing.T) { // P12.1
	for _, c := range []struct {
		p uint64
		n int
	}{{2, 8}, {3, 5}, {5, 4}} {
		l := rowTo(2*c.p + 1)
		for n := range c.n + 1 {
			for _, a := range allOf(c.p, n) {
				wantValues(t, c.p, a, l, valuesOf(a, l, c.p))
			}
		}
	}
}

func TestValuesOfManyLengths(t *testing.T) { // P12.1: of places that may come several times
	s := source(1)
	for _, p := range primes() {
		for _, n := range lengths() {
			for _, m := range append(lengths(), 1000) {
				a, l := s.words(m), s.words(n)
				wantValues(t, p, a, l, valuesOf(a, l, p))
			}
		}
	}
}

func TestValuesAtManyPlaces(t *testing.T) { // P12.1: of polynomials much shorter, and longer, than there are places
	s := source(2)
	for _, p := range []uint64{2, 97, greatest} {
		for _, c := range []struct{ coefficients, places int }{{1, 4000}, {8, 3001}, {9, 3000}, {50, 2500}, {1000, 999}, {30000, 1}, {30000, 8}, {30000, 9}, {20000, 70}} {
			a, l := s.words(c.coefficients), s.words(c.places)
			wantValues(t, p, a, l, valuesOf(a, l, p))
		}
	}
}

func TestValuesCountCoefficients(t *testing.T) { // P12.1: those that are 0 at the end do not count
	s := source(3)
	for _, p := range []uint64{2, 7, 998244353} {
		for _, n := range []int{0, 1, 5, 20, 60} {
			a, l := s.words(n), s.words(40)
			longer := append(slices.Clone(a), make(poly, 500)...)
			for i := n; i < len(longer); i += 3 {
				longer[i] = p
			}
			wantValues(t, p, longer, l, valuesOf(a, l, p))
		}
	}
}

func TestValuesAtTheLimit(t *testing.T) { // P12.1
	s := source(4)
	for _, p := range []uint64{2, 65537, greatest} {
		a, l := s.words(most+100), s.words(most)
		wantValues(t, p, a, l, valuesOf(a, l, p))
		for _, n := range []int{most + 1, most + 2, 10000} {
			for _, a := range []poly{nil, {0}, {1, 2}, a} {
				if v, err := newton.Values(p, a, make(row, n)); len(v) != 0 || err != api.ErrLimit {
					t.Errorf("modulo %d: Values at %d places: got %d, error %d", p, n, short(v), int(err))
				}
			}
		}
	}
}
