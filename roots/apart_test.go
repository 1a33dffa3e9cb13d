package roots_test

import (
	"math"
	"slices"
	"testing"

	"vinculum/api"
	"vinculum/roots"
)

// seedsTo is the numbers from 0 on, so many of them.
func seedsTo(n uint64) row {
	var l row
	for x := range n {
		l = append(l, x)
	}
	return l
}

func wantRoots(t *testing.T, p uint64, a poly, seeds, want row) {
	t.Helper()
	if got, err := roots.Roots(p, a, seeds); !slices.Equal(got, want) || err != api.OK {
		t.Errorf("modulo %d: Roots of %d coefficients, %d, by %d: got %d, error %d, want %d", p, len(a), short(a), short(seeds), short(got), int(err), short(want))
	}
}

func wantRootsErr(t *testing.T, p uint64, a poly, seeds row, want api.Errno) {
	t.Helper()
	if got, err := roots.Roots(p, a, seeds); len(got) != 0 || err != want {
		t.Errorf("modulo %d: Roots of %d coefficients, %d, by %d: got %d, error %d, want the error %d", p, len(a), short(a), short(seeds), short(got), int(err), int(want))
	}
}

// allTold tells whether of each two of some numbers there is a seed that tells them apart.
func allTold(p uint64, l, seeds row) bool {
	for i, x := range l {
		for _, y := range l[:i] {
			told := func(seed uint64) bool { return tells(p, seed, x, y) }
			if p != 2 && !slices.ContainsFunc(seeds, told) {
				return false
			}
		}
	}
	return true
}

func TestRoots(t *testing.T) { // P11.2
	cases := []struct {
		p           uint64
		a           poly
		seeds, want row
	}{
		{7, poly{6, 0, 1}, row{1}, row{1, 6}}, {7, poly{6, 0, 1}, row{8}, row{1, 6}}, {7, poly{13, 7, 8, 14}, row{8}, row{1, 6}}, {7, poly{6, 0, 1}, row{0}, row{1, 6}}, {7, poly{6, 0, 1}, row{2, 3, 1}, row{1, 6}}, {7, poly{3}, nil, nil}, {7, poly{1, 0, 1}, nil, nil}, {7, poly{1, 3}, nil, row{2}}, {7, poly{0, 0, 1}, nil, row{0}}, {7, poly{0, 0, 1}, row{5, 5}, row{0}}, {7, poly{1, 6, 6, 1}, row{1}, row{1, 6}},
		{7, poly{0, 6, 0, 0, 0, 0, 0, 1}, seedsTo(7), seedsTo(7)}, {3, poly{0, 2, 0, 1}, seedsTo(3), seedsTo(3)}, {998244353, poly{998244352, 0, 0, 0, 1}, seedsTo(20), row{1, 86583718, 911660635, 998244352}},
		// Of 2 no seeds are needed.
		{2, poly{0, 1, 1}, nil, row{0, 1}}, {2, poly{0, 1, 1}, row{3}, row{0, 1}}, {2, poly{1, 1, 1}, nil, nil}, {2, poly{0, 0, 1, 0}, nil, row{0}}, {2, poly{1, 0, 1}, nil, row{1}}, {2, poly{3}, nil, nil},
		{greatest, poly{greatest - 1, 0, 1}, row{0}, row{1, greatest - 1}}, {greatest, poly{2, 1}, nil, row{greatest - 2}}, {greatest, poly{math.MaxUint64, 1}, nil, row{greatest - 49}},
	}
	for _, c := range cases {
		wantRoots(t, c.p, c.a, c.seeds, c.want)
	}
}

func TestRootsErrors(t *testing.T) { // P11.2
	for _, seeds := range []row{nil, {}, {1}, seedsTo(20)} {
		for _, p := range primes() {
			for _, a := range []poly{nil, {}, {0}, {p, 0}, {0, 0, 0}} {
				wantRootsErr(t, p, a, seeds, api.ErrArg)
			}
		}
	}
	cases := []struct {
		p     uint64
		a     poly
		seeds row
	}{
		{7, poly{6, 0, 1}, nil}, {7, poly{6, 0, 1}, row{}}, {7, poly{6, 0, 1}, row{4}}, {7, poly{6, 0, 1}, row{4, 4, 11}}, {3, poly{0, 2, 0, 1}, row{0}}, {3, poly{0, 1, 1}, nil}, {7, poly{0, 6, 0, 0, 0, 0, 0, 1}, row{1, 2}}, {greatest, poly{4, greatest - 5, 1}, row{0}},
	}
	for _, c := range cases {
		wantRootsErr(t, c.p, c.a, c.seeds, api.ErrBudget)
	}
}

// wantBySeeds holds what Roots answers against the roots that are known, and against what the seeds tell apart.
func wantBySeeds(t *testing.T, p uint64, a poly, seeds, want row) {
	t.Helper()
	if allTold(p, want, seeds) {
		wantRoots(t, p, a, seeds, want)
	} else {
		wantRootsErr(t, p, a, seeds, api.ErrBudget)
	}
}

func TestRootsOfAllSmallPolynomials(t *testing.T) { // P11.2: held against every number, by no seed, one, two, or all
	for _, c := range []struct {
		p uint64
		n int
	}{{2, 7}, {3, 5}, {5, 4}, {7, 4}} {
		seeds := []row{nil, seedsTo(c.p)}
		for x := range c.p {
			seeds = append(seeds, row{x}, row{x, x + 1}, row{x + c.p, x + 2, x})
		}
		for n := range c.n + 1 {
			for i, a := range allOf(c.p, n) {
				if isZero(a, c.p) {
					continue
				}
				want := rootsOf(c.p, a)
				wantBySeeds(t, c.p, a, seeds[i%len(seeds)], want)
				if i%7 == 0 {
					for _, l := range seeds {
						wantBySeeds(t, c.p, a, l, want)
					}
				}
			}
		}
	}
}

func TestRootsOfAllSetsOfNumbers(t *testing.T) { // P11.2: of every set of numbers, by every set of two seeds
	for _, p := range []uint64{2, 3, 5, 7} {
		for set := range 1 << p {
			var l row
			for x := range p {
				if set>>x&1 == 1 {
					l = append(l, x)
				}
			}
			for _, seeds := range allOf(p, 2) {
				wantBySeeds(t, p, fromOf(p, l), seeds, l)
			}
		}
	}
}

func TestRootsBySeedsThatDoNotTell(t *testing.T) { // P11.2: an error just where two are not told apart
	s := source(21)
	told, not := 0, 0
	for _, p := range primes() {
		for n := range 9 {
			for many := range 8 {
				l := s.words(n)
				seeds := s.words(many)
				a := timesAll(poly{s.word()%(p-1) + 1}, l, p)
				for i := range l {
					l[i] %= p
				}
				slices.Sort(l)
				l = slices.Compact(l)
				wantBySeeds(t, p, a, seeds, l)
				if allTold(p, l, seeds) {
					told++
				} else {
					not++
				}
			}
		}
	}
	if told < 100 || not < 100 {
		t.Errorf("%d were told apart, %d were not", told, not)
	}
}

func TestRootsBesideOtherFactors(t *testing.T) { // P11.2: of polynomials of which other factors have no roots
	s := source(22)
	for _, p := range primes() {
		if p == 2 {
			continue
		}
		// The square of x, less what is no square, is never 0.
		no := uint64(2)
		for power(no, (p-1)/2, p) != p-1 {
			no++
		}
		for n := range 7 {
			l := s.words(n)
			a := timesAll(poly{p - no, 0, 1}, append(l, l...), p)
			for i := range l {
				l[i] %= p
			}
			slices.Sort(l)
			l = slices.Compact(l)
			seeds := append(s.words(60), seedsTo(min(p, 100))...)
			wantRoots(t, p, a, seeds, l)
			wantLinear(t, p, a, fromOf(p, l))
		}
	}
}

func TestRootsOfManyNumbers(t *testing.T) { // P11.2, P11.3
	s := source(23)
	for _, p := range []uint64{65537, 998244353, greatest} {
		for _, n := range []int{50, 200, 600} {
			var l row
			for len(l) < n {
				l = append(l, s.word()%p)
				slices.Sort(l)
				l = slices.Compact(l)
			}
			a := fromOf(p, l)
			wantRoots(t, p, a, s.words(60), l)
			wantRootsErr(t, p, a, s.words(3), api.ErrBudget)
		}
	}
}

func TestRootsOfLongPolynomials(t *testing.T) { // P11.2: of degrees beyond the prime
	s := source(24)
	for _, p := range []uint64{2, 3, 7, 97, 251} {
		for _, n := range []int{1, 2, 50, 150, 400} {
			a := timesAll(append(s.words(n), 1), row{1, 1, 2, 0, p - 1}, p)
			wantRoots(t, p, a, seedsTo(p), rootsOf(p, a))
		}
	}
}
