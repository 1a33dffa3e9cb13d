package recur_test

import (
	"math"
	"testing"

	"vinculum/api"
	"vinculum/recur"
	"vinculum/upoly"
)

func wantFar(t *testing.T, p uint64, r rule, l row, at, want uint64) {
	t.Helper()
	if got, err := recur.Far(p, r, l, at); got != want || err != api.OK {
		t.Errorf("modulo %d: Far of a rule of %d numbers, %d, a row of %d, %d, at %d: got %d, error %d, want %d", p, len(r), short(r), len(l), short(l), at, got, int(err), want)
	}
}

// farPlaces are such that every bit, or none, or one alone is 1.
func farPlaces() []uint64 {
	return []uint64{0, 1, 2, 3, 1000, 1000000, 1<<32 - 1, 1 << 32, 1<<63 - 1, 1 << 63, 1<<63 + 1, math.MaxUint64 - 1, math.MaxUint64}
}

func TestFar(t *testing.T) { // P10.2
	cases := []struct {
		p        uint64
		r        rule
		l        row
		at, want uint64
	}{
		{7, rule{6, 6}, row{1, 1}, 0, 1}, {7, rule{6, 6}, row{1, 1}, 1, 1}, {7, rule{6, 6}, row{1, 1}, 2, 2}, {7, rule{6, 6}, row{1, 1}, 4, 5}, {7, rule{6, 6}, row{1, 1}, 1000000, 1}, {7, rule{6, 6}, row{1, 1}, math.MaxUint64, 0},
		{7, rule{13, 20}, row{8, 15}, 4, 5}, {7, rule{6, 6}, row{8, 9}, 0, 1}, {7, rule{6, 6}, row{8, 9}, 1, 2}, {7, rule{5}, row{1}, 10, 2}, {7, rule{0}, row{10}, 0, 3}, {7, rule{0}, row{3}, 1, 0}, {7, rule{7, 14}, row{3, 4}, 1, 4}, {7, rule{7, 14}, row{3, 4}, 2, 0},
		// A rule of no numbers, and what stands in a row behind as many numbers as a rule has.
		{7, nil, nil, 5, 0}, {7, nil, nil, 0, 0}, {7, nil, row{3}, 0, 0}, {7, nil, row{3, 4}, math.MaxUint64, 0}, {7, rule{6, 6}, row{1, 1, 6, 6, 6}, 2, 2}, {7, rule{6, 6}, row{1, 1, 6, 6, 6}, 4, 5}, {7, rule{0}, row{3, 3, 3}, 1, 0},
		{2, rule{1, 1}, row{0, 1}, 3, 0}, {2, rule{1, 1}, row{0, 1}, math.MaxUint64, 0}, {2, rule{1, 1}, row{0, 1}, math.MaxUint64 - 1, 1}, {greatest, rule{1}, row{1}, math.MaxUint64, greatest - 1}, {greatest, rule{math.MaxUint64}, row{math.MaxUint64}, 1, greatest - 2401},
	}
	for _, c := range cases {
		wantFar(t, c.p, c.r, c.l, c.at, c.want)
	}
}

func TestFarErrors(t *testing.T) { // P10.2
	for _, r := range []rule{{0}, {6, 6}, {1, 2, 3}} {
		for n := range r {
			for _, at := range farPlaces() {
				if got, err := recur.Far(7, r, make(row, n), at); got != 0 || err != api.ErrArg {
					t.Errorf("Far of %d and a row of %d numbers at %d: got %d, error %d", r, n, at, got, int(err))
				}
			}
		}
	}
}

func TestFarOfSumsOfPowers(t *testing.T) { // P10.2: the numbers are known however far they are
	s := source(31)
	for _, p := range []uint64{97, 65537, 998244353, greatest} {
		for _, n := range []int{1, 2, 3, 10, 64, 90} {
			factors := s.words(n)
			l, char := fromRatios(t, p, oneTo(n), factors, n)
			r := make(rule, n)
			for i := range r {
				r[i] = char[n-1-i]
			}
			for _, at := range append(farPlaces(), s.word(), s.word()) {
				want := uint64(0)
				for i, x := range factors {
					want = plus(want, times(x, power(uint64(i)+1, at, p), p), p)
				}
				wantFar(t, p, r, l, at, want)
			}
		}
	}
}

func TestFarOfRowsThatComeAgain(t *testing.T) { // P10.2: of the rule that the number n places ahead is the same
	s := source(32)
	for _, p := range primes() {
		for _, n := range []int{1, 2, 5, 64, 100} {
			r, l := make(rule, n), s.words(n)
			r[n-1] = p - 1
			for _, at := range append(farPlaces(), s.word(), s.word()) {
				wantFar(t, p, r, l, at, l[at%uint64(n)]%p)
			}
		}
	}
}

func TestFarByPowersOfX(t *testing.T) { // P10.2: held against what is left of a power of x by the rule's polynomial
	s := source(33)
	for _, p := range primes() {
		f, _ := upoly.New(p)
		for _, n := range []int{1, 2, 3, 8, 40, 150} {
			r, l := rule(s.words(n)), s.words(n)
			char, _ := recur.Char(p, r)
			for _, at := range []uint64{uint64(n), s.word(), math.MaxUint64} {
				left, err := f.PowMod(poly{0, 1}, at, char)
				if err != api.OK {
					t.Fatalf("PowMod: error %d", int(err))
				}
				want := uint64(0)
				for i, x := range left {
					want = plus(want, times(x, l[i], p), p)
				}
				wantFar(t, p, r, l, at, want)
			}
		}
	}
}
