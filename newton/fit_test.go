package newton_test

import (
	"math"
	"slices"
	"testing"

	"vinculum/api"
	"vinculum/newton"
)

func wantFit(t *testing.T, p uint64, l, v row, want poly) {
	t.Helper()
	if a, err := newton.Fit(p, l, v); !slices.Equal(a, want) || err != api.OK {
		t.Errorf("modulo %d: Fit of %d values, %d at %d: got %d, error %d, want %d", p, len(l), short(v), short(l), short(a), int(err), short(want))
	}
}

// wantFits holds what was fitted against what it is to be: there is one such polynomial alone.
func wantFits(t *testing.T, p uint64, l, v row) {
	t.Helper()
	a, err := newton.Fit(p, l, v)
	if err != api.OK || len(a) > len(l) || !slices.Equal(a, normOf(a, p)) {
		t.Fatalf("modulo %d: Fit of %d values, %d at %d: got %d coefficients, %d, error %d", p, len(l), short(v), short(l), len(a), short(a), int(err))
	}
	if got := valuesOf(a, l, p); !slices.Equal(got, left(v, p)) {
		t.Errorf("modulo %d: Fit of %d values, %d at %d: got %d, with the values %d", p, len(l), short(v), short(l), short(a), short(got))
	}
}

// wantFitErr holds the error of both calls that take places and numbers.
func wantFitErr(t *testing.T, p uint64, l, v row, want api.Errno) {
	t.Helper()
	if a, err := newton.Fit(p, l, v); len(a) != 0 || err != want {
		t.Errorf("modulo %d: Fit of %d and %d numbers, %d, %d: got %d, error %d, want the error %d", p, len(l), len(v), short(l), short(v), short(a), int(err), int(want))
	}
	if c, err := newton.Sums(p, l, v); len(c) != 0 || err != want {
		t.Errorf("modulo %d: Sums of %d and %d numbers, %d, %d: got %d, error %d, want the error %d", p, len(l), len(v), short(l), short(v), short(c), int(err), int(want))
	}
}

func TestFit(t *testing.T) { // P12.1
	cases := []struct {
		p    uint64
		l, v row
		want poly
	}{
		{7, row{1, 2, 3}, row{1, 4, 2}, poly{0, 0, 1}}, {7, row{3, 1, 2}, row{2, 1, 4}, poly{0, 0, 1}}, {7, row{10, 8, 16}, row{9, 8, 4}, poly{0, 0, 1}}, {7, nil, nil, nil}, {7, row{}, nil, nil}, {7, row{4}, row{0}, nil}, {7, row{4}, row{14}, nil}, {7, row{4}, row{8}, poly{1}},
		{7, row{0, 1}, row{3, 3}, poly{3}}, {7, row{0, 1, 2, 3, 4, 5, 6}, row{1, 0, 0, 0, 0, 0, 0}, poly{1, 0, 0, 0, 0, 0, 6}}, {7, row{0, 1, 2, 3, 4, 5, 6}, row{0, 1, 2, 3, 4, 5, 6}, poly{0, 1}},
		{2, row{0, 1}, row{1, 0}, poly{1, 1}}, {2, row{1, 0}, row{1, 0}, poly{0, 1}}, {2, row{5}, row{3}, poly{1}}, {3, row{0, 1, 2}, row{1, 2, 1}, poly{1, 2, 2}},
		{greatest, row{0, 1}, row{0, math.MaxUint64}, poly{0, 49}}, {greatest, row{greatest - 1, 1, 0}, row{1, 1, 0}, poly{0, 0, 1}}, {greatest, row{math.MaxUint64}, row{math.MaxUint64}, poly{49}},
	}
	for _, c := range cases {
		wantFit(t, c.p, c.l, c.v, c.want)
	}
}

func TestFitOfAllSmallLists(t *testing.T) { // P12.1: all values at all places there are, in any order
	for _, c := range []struct {
		p uint64
		n int
	}{{2, 3}, {3, 4}, {5, 3}} {
		for n := range c.n + 1 {
			for _, l := range allOf(c.p, n) {
				twice := anyTwice(l, c.p)
				for _, v := range allOf(c.p, n) {
					if twice {
						wantFitErr(t, c.p, l, v, api.ErrInexact)
						continue
					}
					wantFits(t, c.p, l, v)
					wantSums(t, c.p, l, v)
				}
			}
		}
	}
}

func TestFitOfManyLengths(t *testing.T) { // P12.1
	s := source(11)
	for _, p := range primes() {
		for _, n := range lengths() {
			l := s.places(n, p)
			wantFits(t, p, l, s.words(len(l)))
			wantFits(t, p, l, make(row, len(l)))
			wantFit(t, p, l, make(row, len(l)), nil)
		}
	}
}

func TestFitAtTheLimit(t *testing.T) { // P12.1
	s := source(12)
	for _, p := range []uint64{4099, 998244353, greatest} {
		wantFits(t, p, s.places(most, p), s.words(most))
		wantFit(t, p, rowTo(most), rowTo(most), poly{0, 1})
	}
	wantFits(t, 4093, s.mixedUp(rowTo(4093)), s.words(4093))
	for _, p := range []uint64{2, 7, greatest} {
		for _, n := range []int{most + 1, most + 2, 10000} {
			wantFitErr(t, p, rowTo(uint64(n)), make(row, n), api.ErrLimit)
			wantFitErr(t, p, make(row, n), make(row, n), api.ErrLimit)
		}
	}
}

func TestListsOfOtherLengths(t *testing.T) { // P12.1, P12.2: ahead of the other errors
	s := source(13)
	for _, p := range []uint64{2, 7, greatest} {
		for _, n := range []int{0, 1, 2, 100, most, most + 1, most + 5} {
			for _, m := range []int{0, 1, 2, 3, 99, 101, most - 1, most, most + 1} {
				if n != m {
					wantFitErr(t, p, rowTo(uint64(n)), s.words(m), api.ErrArg)
					wantFitErr(t, p, make(row, n), s.words(m), api.ErrArg)
				}
			}
		}
	}
}

func TestPlacesThatAreTheSame(t *testing.T) { // P12.1, P12.2: modulo p, wherever they stand
	s := source(14)
	for _, p := range primes() {
		for _, n := range []int{2, 3, 8, 9, 17, 100, most} {
			if uint64(n) > p {
				wantFitErr(t, p, s.words(n), s.words(n), api.ErrInexact)
				continue
			}
			for _, at := range [][2]int{{0, 1}, {0, n - 1}, {n - 2, n - 1}, {n / 2, n - 1}, {n/2 - 1, n / 2}} {
				if at[0] == at[1] {
					continue
				}
				l := s.places(n, p)
				l[at[1]] = l[at[0]]
				wantFitErr(t, p, l, s.words(n), api.ErrInexact)
				wantFitErr(t, p, l, make(row, n), api.ErrInexact)
				l[at[1]] = l[at[0]]%p + p
				wantFitErr(t, p, l, s.words(n), api.ErrInexact)
			}
		}
	}
}
