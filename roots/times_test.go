package roots_test

import (
	"math"
	"testing"

	"vinculum/api"
	"vinculum/roots"
)

func wantTimes(t *testing.T, p uint64, a poly, x uint64, want int) {
	t.Helper()
	if got, err := roots.Times(p, a, x); got != want || err != api.OK {
		t.Errorf("modulo %d: Times of %d coefficients, %d, at %d: got %d, error %d, want %d", p, len(a), short(a), x, got, int(err), want)
	}
}

// timesOf is how often x less a number divides a polynomial, division by division.
func timesOf(p uint64, a poly, x uint64) int {
	for n := 0; ; n++ {
		if valueOf(a, x, p) != 0 {
			return n
		}
		// From the highest coefficient on each is brought on by x: the last is the value.
		quotient := make(poly, len(a)-1)
		above := uint64(0)
		for i := len(quotient) - 1; i >= 0; i-- {
			above = plus(a[i+1], times(above, x, p), p)
			quotient[i] = above
		}
		a = quotient
	}
}

func TestTimes(t *testing.T) { // P11.1
	cases := []struct {
		p    uint64
		a    poly
		x    uint64
		want int
	}{
		{7, poly{0, 0, 1}, 0, 2}, {7, poly{0, 0, 1}, 7, 2}, {7, poly{0, 0, 1}, 1, 0}, {7, poly{7, 14, 1, 0, 7}, 0, 2}, {7, poly{1, 6, 6, 1}, 1, 2}, {7, poly{1, 6, 6, 1}, 8, 2}, {7, poly{1, 6, 6, 1}, 6, 1}, {7, poly{1, 6, 6, 1}, 0, 0}, {7, poly{5}, 1, 0}, {7, poly{5}, 0, 0}, {7, poly{5, 7, 0}, 0, 0}, {7, poly{6, 1}, 1, 1}, {7, poly{6, 1}, 2, 0},
		// As often as the prime, and more often: there derivatives tell nothing.
		{7, poly{6, 0, 0, 0, 0, 0, 0, 1}, 1, 7}, {7, poly{6, 0, 0, 0, 0, 0, 0, 1}, 2, 0}, {2, poly{1, 0, 0, 0, 1}, 1, 4}, {2, poly{1, 0, 0, 0, 1}, math.MaxUint64, 4}, {2, poly{1, 0, 0, 0, 1}, 0, 0}, {2, poly{0, 0, 0, 0, 0, 1}, 2, 5},
		{greatest, poly{1, 2, 1}, greatest - 1, 2}, {greatest, poly{1, 2, 1}, 2*greatest - 1, 2}, {greatest, poly{1, 2, 1}, math.MaxUint64, 0}, {greatest, poly{greatest - 49, 1}, math.MaxUint64, 1},
	}
	for _, c := range cases {
		wantTimes(t, c.p, c.a, c.x, c.want)
	}
}

func TestTimesOfAllSmallPolynomials(t *testing.T) { // P11.1: held against divisions one by one
	for _, c := range []struct {
		p uint64
		n int
	}{{2, 9}, {3, 6}, {5, 5}, {7, 4}} {
		for n := range c.n + 1 {
			for _, a := range allOf(c.p, n) {
				for x := range c.p {
					if !isZero(a, c.p) {
						wantTimes(t, c.p, a, x, timesOf(c.p, a, x))
					} else if got, err := roots.Times(c.p, a, x); got != 0 || err != api.ErrArg {
						t.Errorf("modulo %d: Times of %d: got %d, error %d", c.p, a, got, int(err))
					}
				}
			}
		}
	}
}

func TestTimesOfMany(t *testing.T) { // P11.1: of a number that comes so often, and others
	s := source(11)
	for _, p := range primes() {
		for n := range 40 {
			x := s.word()
			a := append(s.words(s.below(20)), 1)
			already := timesOf(p, a, x)
			for range n {
				a = timesFactor(a, x, p)
			}
			wantTimes(t, p, a, x, n+already)
			wantTimes(t, p, append(a, 0, p), x%p, n+already)
			wantTimes(t, p, a, x+1, timesOf(p, a, (x+1)%p))
		}
	}
}

func TestTimesOfLongPolynomials(t *testing.T) { // P11.1: of powers of x, and such as have one root alone
	for _, p := range []uint64{2, 97, greatest} {
		for _, n := range []int{511, 512, 513, 2000, 100000} {
			wantTimes(t, p, append(make(poly, n), 1), 0, n)
			wantTimes(t, p, append(make(poly, n), 1, 1, 1), 0, n)
			wantTimes(t, p, append(make(poly, n), 1), 1, 0)
		}
		for _, n := range []int{63, 64, 65, 700} {
			x := p/3 + 1
			var l row
			for range n {
				l = append(l, x)
			}
			wantTimes(t, p, fromOf(p, l), x, n)
			wantTimes(t, p, timesFactor(fromOf(p, l), x+1, p), x, n)
			wantTimes(t, p, timesFactor(fromOf(p, l), x+1, p), x+1, 1)
		}
	}
}
