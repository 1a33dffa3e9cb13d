package recur_test

import (
	"math"
	"math/bits"
	"slices"
	"testing"

	"vinculum/api"
	"vinculum/recur"
	"vinculum/upoly"
)

type (
	rule = recur.Rule
	row  = []uint64
	poly = upoly.Poly
)

// greatest is the greatest prime of a field.
const greatest = 1<<63 - 25

// source is numbers that look like any others, the same ones in every run.
type source uint64

func (s *source) word() uint64 {
	*s += 0x9e3779b97f4a7c15
	w := uint64(*s)
	w = (w ^ w>>30) * 0xbf58476d1ce4e5b9
	w = (w ^ w>>27) * 0x94d049bb133111eb
	return w ^ w>>31
}

// below is a number from 0 to n less 1.
func (s *source) below(n int) int { return int(s.word() % uint64(n)) }

// words are any, with 0 and the greatest word among them.
func (s *source) words(n int) row {
	l := make(row, n)
	for i := range l {
		switch l[i] = s.word(); l[i] % 8 {
		case 0:
			l[i] = 0
		case 1:
			l[i] = math.MaxUint64
		}
	}
	return l
}

// times is the product of x and y modulo p, by other means than the program's.
func times(x, y, p uint64) uint64 {
	high, low := bits.Mul64(x%p, y%p)
	return bits.Rem64(high, low, p)
}

func plus(x, y, p uint64) uint64 { return (x%p + y%p) % p }

func minus(x, y, p uint64) uint64 { return (x%p + p - y%p) % p }

func power(x, n, p uint64) uint64 {
	y := 1 % p
	for ; n > 0; n >>= 1 {
		if n&1 == 1 {
			y = times(y, x, p)
		}
		x = times(x, x, p)
	}
	return y
}

// primes are small and great ones, with both ends of what may be.
func primes() []uint64 {
	return []uint64{2, 3, 5, 7, 97, 65537, 1<<32 - 5, 1<<32 + 15, 998244353, 1<<61 - 1, greatest}
}

// noPrimes are composites, and primes that are too great.
func noPrimes() []uint64 {
	return []uint64{0, 1, 4, 6, 9, 91, 561, 3215031751, 1 << 32, 1 << 62, 1<<63 - 1, 1<<63 - 24, 1 << 63, 1<<63 + 29, 18446744073709551557, math.MaxUint64}
}

// allOf is every list of n numbers below p.
func allOf(p uint64, n int) []row {
	lists := []row{{}}
	for range n {
		var longer []row
		for _, l := range lists {
			for x := range p {
				longer = append(longer, append(slices.Clone(l), x))
			}
		}
		lists = longer
	}
	return lists
}

// leftOf is what is left of each number.
func leftOf(l row, p uint64) row {
	left := make(row, len(l))
	for i, x := range l {
		left[i] = x % p
	}
	return left
}

// sumAt is what a number of a row, and those ahead of it by a rule, come to together: as the document says it.
func sumAt(p uint64, r rule, l row, place int) uint64 {
	sum := l[place] % p
	for i, x := range r {
		sum = plus(sum, times(x, l[place-1-i], p), p)
	}
	return sum
}

// goesOn tells whether all of these are 0.
func goesOn(p uint64, r rule, l row) bool {
	for place := len(r); place < len(l); place++ {
		if sumAt(p, r, l, place) != 0 {
			return false
		}
	}
	return true
}

// moreOf is what More is to answer.
func moreOf(p uint64, r rule, l row, many int) row {
	l = leftOf(l, p)
	for range many {
		l = append(l, 0)
		l[len(l)-1] = minus(0, sumAt(p, r, l, len(l)-1), p)
	}
	return l
}

// short is a list's beginning, for what a test tells.
func short(l row) row { return l[:min(len(l), 12)] }

func TestHolds(t *testing.T) { // P10.1
	cases := []struct {
		p    uint64
		r    rule
		l    row
		want bool
	}{
		{7, rule{6, 6}, row{1, 1, 2, 3, 5, 1, 6, 0}, true}, {7, rule{6, 6}, row{1, 1, 2, 4}, false}, {7, rule{6, 6}, row{1, 1, 3, 4}, false}, {7, rule{13, 20}, row{8, 8, 9, 10, 12}, true},
		{7, rule{6, 6}, nil, true}, {7, rule{6, 6}, row{5}, true}, {7, rule{6, 6}, row{5, 4}, true}, {7, rule{6, 6}, row{5, 4, 3}, false}, {7, rule{6, 6}, row{5, 4, 2}, true},
		{7, nil, nil, true}, {7, nil, row{0, 7, 14}, true}, {7, nil, row{0, 0, 1}, false}, {7, nil, row{1}, false}, {7, rule{0}, row{3, 0, 7}, true}, {7, rule{0}, row{3, 0, 1}, false}, {7, rule{7, 0}, row{3, 4, 0}, true},
		{2, rule{0, 1}, row{1, 0, 1, 0, 3, 2}, true}, {2, rule{0, 1}, row{1, 0, 1, 1}, false}, {2, rule{1}, row{1, 1, 1, math.MaxUint64}, true},
		{greatest, rule{1}, row{1, greatest - 1, 1, 2*greatest - 1}, true}, {greatest, rule{1}, row{1, 1}, false}, {greatest, rule{math.MaxUint64}, row{1, greatest - 49}, true}, {greatest, rule{math.MaxUint64}, row{1, greatest - 48}, false},
	}
	for _, c := range cases {
		if is, err := recur.Holds(c.p, c.r, c.l); is != c.want || err != api.OK {
			t.Errorf("modulo %d: Holds of %d and %d: got %t, error %d", c.p, c.r, c.l, is, int(err))
		}
	}
}

func TestHoldsOfAllSmallRows(t *testing.T) { // P10.1
	for _, p := range []uint64{2, 3} {
		for n := range 4 {
			for _, r := range allOf(p, n) {
				for _, l := range allOf(p, 6) {
					if is, err := recur.Holds(p, r, l); is != goesOn(p, r, l) || err != api.OK {
						t.Errorf("modulo %d: Holds of %d and %d: got %t, error %d", p, r, l, is, int(err))
					}
				}
			}
		}
	}
}

func TestHoldsUpToEachPlace(t *testing.T) { // P10.1: a number that is another one is found, wherever it stands
	s := source(1)
	for _, p := range primes() {
		for _, n := range []int{0, 1, 2, 5, 70, 200} {
			r := rule(s.words(n))
			l := moreOf(p, r, s.words(n), 150)
			if is, err := recur.Holds(p, r, l); !is || err != api.OK {
				t.Errorf("modulo %d: Holds of a rule of %d numbers: got %t, error %d", p, n, is, int(err))
			}
			for _, place := range []int{n, n + 1, n + 2, n + 70, n + 149} {
				wrong := slices.Clone(l)
				wrong[place] = plus(wrong[place], 1, p)
				if is, err := recur.Holds(p, r, wrong); is || err != api.OK {
					t.Errorf("modulo %d: Holds of a rule of %d numbers, with a wrong one at %d: got %t, error %d", p, n, place, is, int(err))
				}
				if is, err := recur.Holds(p, r, wrong[:place]); !is || err != api.OK {
					t.Errorf("modulo %d: Holds of a rule of %d numbers, up to %d: got %t, error %d", p, n, place, is, int(err))
				}
			}
		}
	}
}

func TestHoldsOfLongRulesAndRows(t *testing.T) { // P10.1: there is no limit
	long := make(row, 1<<20)
	if is, err := recur.Holds(7, rule(long), long); !is || err != api.OK {
		t.Errorf("Holds of a rule as long as the row: got %t, error %d", is, int(err))
	}
	if is, err := recur.Holds(7, rule(long), row{3}); !is || err != api.OK {
		t.Errorf("Holds of a rule that is longer than the row: got %t, error %d", is, int(err))
	}
	for i := range long {
		long[i] = uint64(i)
	}
	if is, err := recur.Holds(greatest, rule{greatest - 2, 1}, long); !is || err != api.OK {
		t.Errorf("Holds of the numbers from 0 on: got %t, error %d", is, int(err))
	}
	long[len(long)-1]++
	if is, err := recur.Holds(greatest, rule{greatest - 2, 1}, long); is || err != api.OK {
		t.Errorf("Holds of the numbers from 0 on, but the last one: got %t, error %d", is, int(err))
	}
}

func TestChar(t *testing.T) { // P10.2
	cases := []struct {
		p    uint64
		r    rule
		want poly
	}{
		{7, nil, poly{1}}, {7, rule{}, poly{1}}, {7, rule{6, 6}, poly{6, 6, 1}}, {7, rule{6, 5, 11}, poly{4, 5, 6, 1}}, {7, rule{1, 2, 3, 4}, poly{4, 3, 2, 1, 1}}, {7, rule{0}, poly{0, 1}}, {7, rule{3, 0, 7}, poly{0, 0, 3, 1}},
		{2, rule{2, 3}, poly{1, 0, 1}}, {greatest, rule{greatest, math.MaxUint64}, poly{49, 0, 1}},
	}
	for _, c := range cases {
		if got, err := recur.Char(c.p, c.r); !slices.Equal(got, c.want) || err != api.OK {
			t.Errorf("modulo %d: Char of %d: got %d, error %d", c.p, c.r, got, int(err))
		}
	}
	s := source(2)
	for _, p := range primes() {
		for n := range 60 {
			r := rule(s.words(n))
			want := append(poly{1}, leftOf(r, p)...)
			slices.Reverse(want)
			if got, err := recur.Char(p, r); !slices.Equal(got, want) || err != api.OK {
				t.Errorf("modulo %d: Char of %d: got %d, error %d", p, r, got, int(err))
			}
		}
	}
}

func TestNoPrimes(t *testing.T) { // P10.1, P10.2: ErrPrime goes ahead of all other errors
	for _, p := range noPrimes() {
		for _, l := range []row{nil, {1}, {1, 1, 2, 3}, make(row, 10001)} {
			for _, r := range []rule{nil, {6, 6}, make(rule, 5)} {
				found, err := recur.Find(p, l)
				wantError(t, "Find", p, len(found) == 0, err, api.ErrPrime)
				is, err := recur.Holds(p, r, l)
				wantError(t, "Holds", p, !is, err, api.ErrPrime)
				char, err := recur.Char(p, r)
				wantError(t, "Char", p, len(char) == 0, err, api.ErrPrime)
				x, err := recur.Far(p, r, l, 3)
				wantError(t, "Far", p, x == 0, err, api.ErrPrime)
				for _, many := range []int{-1, 0, 3, 100001} {
					more, err := recur.More(p, r, l, many)
					wantError(t, "More", p, len(more) == 0, err, api.ErrPrime)
				}
			}
		}
	}
}

func wantError(t *testing.T, name string, p uint64, nothing bool, err, want api.Errno) {
	t.Helper()
	if !nothing || err != want {
		t.Errorf("modulo %d: %s: got nothing %t, error %d, want error %d", p, name, nothing, int(err), int(want))
	}
}
