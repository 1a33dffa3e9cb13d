package newton_test

import (
	"math"
	"slices"
	"testing"

	"vinculum/api"
	"vinculum/newton"
)

// sumsOf is, for each i below n, what numbers come to together, each times its own of l to the ith.
func sumsOf(l, c row, n int, p uint64) row {
	sums, powers := make(row, n), left(c, p)
	for i := range sums {
		for j := range powers {
			sums[i] = plus(sums[i], powers[j], p)
			powers[j] = times(powers[j], l[j], p)
		}
	}
	return sums
}

// wantSums holds the numbers of Sums against what they are to be: there are no others.
func wantSums(t *testing.T, p uint64, l, v row) {
	t.Helper()
	c, err := newton.Sums(p, l, v)
	if err != api.OK || len(c) != len(l) || !slices.Equal(c, left(c, p)) {
		t.Fatalf("modulo %d: Sums of %d numbers, %d, %d: got %d numbers, %d, error %d", p, len(l), short(l), short(v), len(c), short(c), int(err))
	}
	if got := sumsOf(l, c, len(l), p); !slices.Equal(got, left(v, p)) {
		t.Errorf("modulo %d: Sums of %d numbers, %d, %d: got %d, which come to %d", p, len(l), short(l), short(v), short(c), short(got))
	}
}

func TestSums(t *testing.T) { // P12.2
	cases := []struct {
		p          uint64
		l, v, want row
	}{
		{7, row{1, 2}, row{3, 4}, row{2, 1}}, {7, row{2, 1}, row{3, 4}, row{1, 2}}, {7, row{8, 9}, row{10, 11}, row{2, 1}}, {7, nil, nil, nil}, {7, row{}, nil, nil}, {7, row{5}, row{3}, row{3}}, {7, row{0}, row{10}, row{3}}, {7, row{0, 3}, row{5, 3}, row{4, 1}}, {7, row{4, 0}, row{6, 0}, row{0, 6}},
		{7, row{1, 2, 3}, row{0, 0, 0}, row{0, 0, 0}}, {7, row{1, 2, 3}, row{7, 14, 0}, row{0, 0, 0}}, {7, row{1, 2, 3}, row{1, 1, 1}, row{1, 0, 0}}, {7, row{1, 2, 3}, row{1, 3, 2}, row{0, 0, 1}}, {7, row{0, 1, 2, 3, 4, 5, 6}, row{7, 0, 0, 0, 0, 0, 6}, row{1, 1, 1, 1, 1, 1, 1}},
		{2, row{0, 1}, row{0, 1}, row{1, 1}}, {2, row{1, 0}, row{1, 1}, row{1, 0}}, {2, row{3}, row{3}, row{1}}, {97, row{2, 3}, row{4, 9}, row{3, 1}},
		{greatest, row{1, greatest - 1}, row{0, 2}, row{1, greatest - 1}}, {greatest, row{math.MaxUint64}, row{math.MaxUint64}, row{49}}, {greatest, row{0, 1}, row{0, math.MaxUint64}, row{greatest - 49, 49}},
	}
	for _, c := range cases {
		if got, err := newton.Sums(c.p, c.l, c.v); !slices.Equal(got, c.want) || err != api.OK {
			t.Errorf("modulo %d: Sums of %d, %d: got %d, error %d, want %d", c.p, c.l, c.v, got, int(err), c.want)
		}
	}
}

func TestSumsOfManyLengths(t *testing.T) { // P12.2
	s := source(21)
	for _, p := range primes() {
		for _, n := range lengths() {
			l := s.places(n, p)
			wantSums(t, p, l, s.words(len(l)))
			wantSums(t, p, l, make(row, len(l)))
			// Sums that begin or end with some that are 0.
			if len(l) > 2 {
				v := s.words(len(l))
				clear(v[:len(v)/2])
				wantSums(t, p, l, v)
				v = s.words(len(l))
				clear(v[1:])
				wantSums(t, p, l, v)
			}
		}
	}
}

func TestSumsAtTheLimit(t *testing.T) { // P12.2
	s := source(22)
	for _, p := range []uint64{4099, greatest} {
		wantSums(t, p, s.places(most, p), s.words(most))
	}
	wantSums(t, 4093, s.mixedUp(rowTo(4093)), s.words(4093))
}

func TestSumsOfWhatIsKnown(t *testing.T) { // P12.2: numbers that were there at first come back, those that are 0 too
	s := source(23)
	for _, p := range primes() {
		for _, n := range lengths() {
			l := s.places(n, p)
			c := s.words(len(l))
			got, err := newton.Sums(p, l, sumsOf(l, c, len(l), p))
			if !slices.Equal(got, left(c, p)) || err != api.OK {
				t.Errorf("modulo %d: Sums of %d numbers: got %d, error %d, want %d", p, len(l), short(got), int(err), short(left(c, p)))
			}
		}
	}
}
