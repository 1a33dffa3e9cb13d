package roots_test

import (
	"math"
	"math/bits"
	"slices"
	"testing"

	"vinculum/api"
	"vinculum/roots"
	"vinculum/upoly"
)

type (
	poly = upoly.Poly
	row  = []uint64
)

// greatest is the greatest prime of a field.
const greatest = 1<<63 - 25

// source is numbers that look like any others, the same ones in every run.
type source uint64

func (s *source) word() uint64 {
	*s += 0x9e3779b97f4a7c15
	w := uint64(*s)
	w = (w ^ w>>30) * 0xbf58476d1ce4e5b9
	w = (w ^ w>>27) * 0x94d049bb133111eb
	return w ^ w>>31
}

// below is a number from 0 to n less 1.
func (s *source) below(n int) int { return int(s.word() % uint64(n)) }

// words are any, with 0 and the greatest word among them.
func (s *source) words(n int) row {
	l := make(row, n)
	for i := range l {
		switch l[i] = s.word(); l[i] % 8 {
		case 0:
			l[i] = 0
		case 1:
			l[i] = math.MaxUint64
		}
	}
	return l
}

// times is the product of x and y modulo p, by other means than the program's.
func times(x, y, p uint64) uint64 {
	high, low := bits.Mul64(x%p, y%p)
	return bits.Rem64(high, low, p)
}

func plus(x, y, p uint64) uint64 { return (x%p + y%p) % p }

func minus(x, y, p uint64) uint64 { return (x%p + p - y%p) % p }

func power(x, n, p uint64) uint64 {
	y := 1 % p
	for ; n > 0; n >>= 1 {
		if n&1 == 1 {
			y = times(y, x, p)
		}
		x = times(x, x, p)
	}
	return y
}

// primes are small and great ones, with both ends of what may be.
func primes() []uint64 {
	return []uint64{2, 3, 5, 7, 97, 65537, 1<<32 - 5, 1<<32 + 15, 998244353, 1<<61 - 1, greatest}
}

// noPrimes are composites, and primes that are too great.
func noPrimes() []uint64 {
	return []uint64{0, 1, 4, 6, 9, 91, 561, 3215031751, 1 << 32, 1 << 62, 1<<63 - 1, 1<<63 - 24, 1 << 63, 1<<63 + 29, 18446744073709551557, math.MaxUint64}
}

// allOf is every list of n numbers below p.
func allOf(p uint64, n int) []row {
	lists := []row{{}}
	for range n {
		var longer []row
		for _, l := range lists {
			for x := range p {
				longer = append(longer, append(slices.Clone(l), x))
			}
		}
		lists = longer
	}
	return lists
}

// short is a list's beginning, for what a test tells.
func short(l []uint64) []uint64 { return l[:min(len(l), 12)] }

// valueOf is the sum of the coefficients, each times its power of x.
func valueOf(a poly, x, p uint64) uint64 {
	value, power := uint64(0), 1%p
	for _, c := range a {
		value = plus(value, times(c, power, p), p)
		power = times(power, x, p)
	}
	return value
}

// timesFactor is a polynomial, times x less a number.
func timesFactor(a poly, x, p uint64) poly {
	product := make(poly, len(a)+1)
	for i, c := range a {
		product[i+1] = plus(product[i+1], c, p)
		product[i] = minus(product[i], times(c, x, p), p)
	}
	return product
}

// fromOf is what From is to answer, factor by factor.
func fromOf(p uint64, l row) poly {
	product := poly{1}
	for _, x := range l {
		product = timesFactor(product, x, p)
	}
	return product
}

// timesAll is a polynomial, times x less each of some numbers.
func timesAll(a poly, l row, p uint64) poly {
	for _, x := range l {
		a = timesFactor(a, x, p)
	}
	return a
}

// rootsOf is the roots among all the numbers there are.
func rootsOf(p uint64, a poly) row {
	var l row
	for x := range p {
		if valueOf(a, x, p) == 0 {
			l = append(l, x)
		}
	}
	return l
}

// isZero tells whether a list is the polynomial 0.
func isZero(a poly, p uint64) bool {
	return !slices.ContainsFunc(a, func(x uint64) bool { return x%p != 0 })
}

func wantFrom(t *testing.T, p uint64, l row, want poly) {
	t.Helper()
	if got, err := roots.From(p, l); !slices.Equal(got, want) || err != api.OK {
		t.Errorf("modulo %d: From of %d numbers, %d: got %d, error %d, want %d", p, len(l), short(l), short(got), int(err), short(want))
	}
}

func wantLinear(t *testing.T, p uint64, a, want poly) {
	t.Helper()
	if got, err := roots.Linear(p, a); !slices.Equal(got, want) || err != api.OK {
		t.Errorf("modulo %d: Linear of %d coefficients, %d: got %d, error %d, want %d", p, len(a), short(a), short(got), int(err), short(want))
	}
}

func TestNoPrimes(t *testing.T) { // P11.1: composites, and primes that are too great; ahead of all other errors
	for _, p := range noPrimes() {
		for _, a := range []poly{nil, {0}, {6, 0, 1}} {
			if l, err := roots.Roots(p, a, nil); len(l) != 0 || err != api.ErrPrime {
				t.Errorf("Roots of %d modulo %d: got %d, error %d", a, p, l, int(err))
			}
			if d, err := roots.Linear(p, a); len(d) != 0 || err != api.ErrPrime {
				t.Errorf("Linear of %d modulo %d: got %d, error %d", a, p, d, int(err))
			}
			if n, err := roots.Times(p, a, 1); n != 0 || err != api.ErrPrime {
				t.Errorf("Times of %d modulo %d: got %d, error %d", a, p, n, int(err))
			}
		}
		for _, n := range []int{0, 1, 2000, 2001} {
			if a, err := roots.From(p, make(row, n)); len(a) != 0 || err != api.ErrPrime {
				t.Errorf("From of %d numbers modulo %d: got %d, error %d", n, p, short(a), int(err))
			}
		}
		if is, err := roots.Tells(p, 1, 1, 6); is || err != api.ErrPrime {
			t.Errorf("Tells modulo %d: got %t, error %d", p, is, int(err))
		}
	}
}

func TestFrom(t *testing.T) { // P11.1
	cases := []struct {
		p    uint64
		l    row
		want poly
	}{
		{7, nil, poly{1}}, {7, row{}, poly{1}}, {7, row{3}, poly{4, 1}}, {7, row{0}, poly{0, 1}}, {7, row{7}, poly{0, 1}}, {7, row{10}, poly{4, 1}}, {7, row{1, 6}, poly{6, 0, 1}}, {7, row{1, 6, 8}, poly{1, 6, 6, 1}}, {7, row{0, 0, 0}, poly{0, 0, 0, 1}},
		{2, row{0, 1}, poly{0, 1, 1}}, {2, row{1, 3}, poly{1, 0, 1}}, {2, row{5, 4}, poly{0, 1, 1}}, {greatest, row{math.MaxUint64}, poly{greatest - 49, 1}}, {greatest, row{greatest - 1, 1}, poly{greatest - 1, 0, 1}},
	}
	for _, c := range cases {
		wantFrom(t, c.p, c.l, c.want)
	}
}

func TestFromOfMany(t *testing.T) { // P11.1: held against the product factor by factor
	s := source(1)
	for _, p := range primes() {
		for n := range 20 {
			l := s.words(n)
			wantFrom(t, p, l, fromOf(p, l))
		}
		for _, n := range []int{63, 64, 65, 127, 128, 129, 300} {
			l := s.words(n)
			wantFrom(t, p, l, fromOf(p, l))
		}
	}
}

func TestFromAtTheLimit(t *testing.T) { // P11.1
	s := source(2)
	for _, p := range []uint64{2, 97, greatest} {
		l := s.words(2000)
		wantFrom(t, p, l, fromOf(p, l))
		for _, n := range []int{2001, 2002, 5000} {
			if a, err := roots.From(p, make(row, n)); len(a) != 0 || err != api.ErrLimit {
				t.Errorf("modulo %d: From of %d numbers: got %d, error %d", p, n, short(a), int(err))
			}
		}
	}
}

func TestTells(t *testing.T) { // P11.1
	cases := []struct {
		p, seed, x, y uint64
		want          bool
	}{
		{7, 1, 1, 6, true}, {7, 1, 6, 1, true}, {7, 0, 1, 2, false}, {7, 0, 1, 3, true}, {7, 0, 3, 5, false}, {7, 8, 1, 6, true}, {7, 1, 8, 13, true}, {7, 0, 3, 0, false}, {7, 0, 0, 3, false}, {7, 0, 1, 0, true}, {7, 4, 3, 6, false}, {7, 4, 3, 4, true}, {7, 1, 1, 1, false}, {7, 1, 1, 8, false},
		{3, 0, 0, 1, true}, {3, 0, 0, 2, false}, {3, 0, 1, 2, true}, {2, 0, 0, 1, true}, {2, 1, 0, 1, true}, {2, 5, 1, 2, true}, {2, 5, 1, 3, false}, {2, 0, 0, 0, false}, {2, 7, math.MaxUint64, 0, true},
		{greatest, 0, 1, greatest - 1, true}, {greatest, 0, 1, 4, false}, {greatest, math.MaxUint64, 0, 0, false}, {greatest, greatest - 1, greatest + 2, 0, true}, {greatest, greatest - 1, 1, 0, false},
	}
	for _, c := range cases {
		if is, err := roots.Tells(c.p, c.seed, c.x, c.y); is != c.want || err != api.OK {
			t.Errorf("modulo %d: Tells of %d, %d, %d: got %t, error %d", c.p, c.seed, c.x, c.y, is, int(err))
		}
	}
}

// tells is whether a seed tells two numbers apart, as the document says it.
func tells(p, seed, x, y uint64) bool {
	if p == 2 {
		return x%2 != y%2
	}
	one := func(x uint64) bool { return power(plus(x, seed, p), (p-1)/2, p) == 1 }
	return one(x) != one(y)
}

func TestTellsOfAllSmallNumbers(t *testing.T) { // P11.1: by squares, which alone leave 1
	for _, p := range []uint64{3, 5, 7, 11, 13} {
		square := make([]bool, p)
		for x := uint64(1); x < p; x++ {
			square[x*x%p] = true
		}
		for seed := range 2 * p {
			for x := range 2 * p {
				for y := range 2 * p {
					want := square[(x+seed)%p] != square[(y+seed)%p]
					if is, err := roots.Tells(p, seed, x, y); is != want || is != tells(p, seed, x, y) || err != api.OK {
						t.Errorf("modulo %d: Tells of %d, %d, %d: got %t, error %d", p, seed, x, y, is, int(err))
					}
				}
			}
		}
	}
}

func TestTellsOfMany(t *testing.T) { // P11.1
	s := source(3)
	for _, p := range primes() {
		for range 100 {
			l := s.words(3)
			if is, err := roots.Tells(p, l[0], l[1], l[2]); is != tells(p, l[0], l[1], l[2]) || err != api.OK {
				t.Errorf("modulo %d: Tells of %d: got %t, error %d", p, l, is, int(err))
			}
		}
	}
}

func TestLinear(t *testing.T) { // P11.2
	cases := []struct {
		p       uint64
		a, want poly
	}{
		{7, poly{6, 0, 1}, poly{6, 0, 1}}, {7, poly{0, 0, 0, 3}, poly{0, 1}}, {7, poly{1, 0, 1}, poly{1}}, {7, poly{3}, poly{1}}, {7, poly{3, 7, 14}, poly{1}}, {7, poly{1, 3}, poly{5, 1}}, {7, poly{8, 10, 0}, poly{5, 1}}, {7, poly{0, 1}, poly{0, 1}},
		{7, poly{0, 6, 0, 0, 0, 0, 0, 1}, poly{0, 6, 0, 0, 0, 0, 0, 1}}, {7, poly{0, 0, 6, 0, 0, 0, 0, 0, 1}, poly{0, 6, 0, 0, 0, 0, 0, 1}}, {2, poly{0, 1, 1}, poly{0, 1, 1}}, {2, poly{1, 1, 1}, poly{1}}, {2, poly{1, 0, 1}, poly{1, 1}}, {2, poly{0, 0, 0, 0, 1}, poly{0, 1}},
		{greatest, poly{greatest - 1, 0, 1}, poly{greatest - 1, 0, 1}}, {greatest, poly{2 * 25, 2}, poly{25, 1}}, {greatest, poly{9, 6, 1}, poly{3, 1}},
	}
	for _, c := range cases {
		wantLinear(t, c.p, c.a, c.want)
	}
}

func TestLinearOfAllSmallPolynomials(t *testing.T) { // P11.2: held against every number that might be a root
	for _, c := range []struct {
		p uint64
		n int
	}{{2, 9}, {3, 6}, {5, 5}, {7, 4}} {
		for n := range c.n + 1 {
			for _, a := range allOf(c.p, n) {
				if isZero(a, c.p) {
					if d, err := roots.Linear(c.p, a); len(d) != 0 || err != api.ErrArg {
						t.Errorf("modulo %d: Linear of %d: got %d, error %d", c.p, a, d, int(err))
					}
					continue
				}
				wantLinear(t, c.p, a, fromOf(c.p, rootsOf(c.p, a)))
			}
		}
	}
}

func TestLinearOfLongPolynomials(t *testing.T) { // P11.2: of degrees beyond the prime, and of few roots that come often
	s := source(4)
	for _, p := range []uint64{2, 3, 7, 97, 251} {
		for _, n := range []int{1, 2, 50, 150, 400} {
			a := append(s.words(n), 1)
			wantLinear(t, p, a, fromOf(p, rootsOf(p, a)))
			a = timesAll(a, []uint64{1, 1, 1, 2, 2, 0, p - 1}, p)
			wantLinear(t, p, a, fromOf(p, rootsOf(p, a)))
		}
	}
}
