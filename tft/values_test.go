package tft_test

import (
	"math"
	"testing"

	"vinculum/api"
)

func TestGo(t *testing.T) { // P7.2
	cases := []struct {
		size
		l    []uint64
		m    int
		want []uint64
	}{
		{size{17, 2}, []uint64{1, 2, 3}, 3, []uint64{6, 2, 7}}, {size{17, 2}, []uint64{1, 2, 3}, 4, []uint64{6, 2, 7, 6}},
		{size{17, 2}, []uint64{1, 2, 3}, 2, []uint64{6, 2}}, {size{17, 2}, []uint64{1, 2, 3}, 1, []uint64{6}}, {size{17, 2}, []uint64{1, 2, 3}, 0, nil},
		{size{17, 2}, []uint64{1, 2, 3, 4}, 3, []uint64{10, 15, 6}}, {size{17, 2}, []uint64{18, 19, 20, 21}, 3, []uint64{10, 15, 6}},
		{size{17, 2}, []uint64{18}, 2, []uint64{1, 1}}, {size{17, 2}, nil, 3, []uint64{0, 0, 0}}, {size{17, 2}, []uint64{}, 0, nil},
		{size{17, 2}, []uint64{0, 1}, 4, []uint64{1, 16, 13, 4}}, {size{17, 2}, []uint64{0, 0, 0, 0}, 4, []uint64{0, 0, 0, 0}},
		{size{2, 0}, []uint64{7}, 1, []uint64{1}}, {size{2, 0}, []uint64{math.MaxUint64 - 1}, 1, []uint64{0}}, {size{2, 0}, nil, 1, []uint64{0}},
		{size{2, 0}, []uint64{7}, 0, nil}, {size{7, 0}, []uint64{9}, 1, []uint64{2}},
		{size{3, 1}, []uint64{2, 1}, 2, []uint64{0, 1}}, {size{3, 1}, []uint64{1, 2}, 1, []uint64{0}}, {size{5, 2}, []uint64{0, 1}, 3, []uint64{1, 4, 2}},
	}
	for _, c := range cases {
		got, err := planOf(t, c.p, c.k).Go(c.l, c.m)
		wantList(t, c.size, "Go", got, err, c.want)
	}
}

func TestBack(t *testing.T) { // P7.2
	cases := []struct {
		size
		values, want []uint64
	}{
		{size{17, 2}, []uint64{6, 2, 7}, []uint64{1, 2, 3}}, {size{17, 2}, []uint64{23, 19, 24}, []uint64{1, 2, 3}}, {size{17, 2}, []uint64{6, 2, 7, 6}, []uint64{1, 2, 3, 0}},
		{size{17, 2}, []uint64{6, 2}, []uint64{4, 2}}, {size{17, 2}, []uint64{6}, []uint64{6}}, {size{17, 2}, nil, nil}, {size{17, 2}, []uint64{}, nil},
		{size{17, 2}, []uint64{0, 0, 0}, []uint64{0, 0, 0}}, {size{17, 2}, []uint64{5, 5, 5}, []uint64{5, 0, 0}}, {size{17, 2}, []uint64{1, 16, 13}, []uint64{0, 1, 0}},
		{size{2, 0}, []uint64{7}, []uint64{1}}, {size{2, 0}, []uint64{6}, []uint64{0}}, {size{2, 0}, nil, nil}, {size{7, 0}, []uint64{9}, []uint64{2}},
		{size{3, 1}, []uint64{0, 1}, []uint64{2, 1}}, {size{3, 1}, []uint64{2}, []uint64{2}}, {size{5, 2}, []uint64{1, 4, 2}, []uint64{0, 1, 0}},
	}
	for _, c := range cases {
		got, err := planOf(t, c.p, c.k).Back(c.values)
		wantList(t, c.size, "Back", got, err, c.want)
	}
}

func TestGoOfAllLengths(t *testing.T) { // P7.2: and the errors, of which ErrLimit is named first
	s := source(1)
	for _, z := range sizes(t, 4) {
		plan, points := planOf(t, z.p, z.k), pointsOf(t, z.p, z.k)
		n := 1 << z.k
		for many := range n + 3 {
			for m := -2; m <= n+2; m++ {
				l := s.words(many)
				got, err := plan.Go(l, m)
				switch {
				case many > n:
					wantErr(t, z, "Go of too many", got, err, api.ErrLimit)
				case m < 0 || m > n:
					wantErr(t, z, "Go at too many", got, err, api.ErrArg)
				default:
					wantList(t, z, "Go", got, err, valuesAt(l, points[:m], z.p))
				}
			}
		}
	}
}

func TestGoIsTheValues(t *testing.T) { // P7.2
	s := source(2)
	for _, z := range sizes(t, 8) {
		plan, points := planOf(t, z.p, z.k), pointsOf(t, z.p, z.k)
		n := 1 << z.k
		for range 8 {
			l, m := s.words(s.below(n+1)), s.below(n+1)
			got, err := plan.Go(l, m)
			wantList(t, z, "Go", got, err, valuesAt(l, points[:m], z.p))
		}
	}
}

func TestBackHasTheValues(t *testing.T) { // P7.2: and there is one such polynomial alone
	s := source(3)
	for _, z := range sizes(t, 6) {
		plan, points := planOf(t, z.p, z.k), pointsOf(t, z.p, z.k)
		for m := range 1<<z.k + 1 {
			l := s.words(m)
			got, err := plan.Back(l)
			if len(got) != m {
				t.Fatalf("p %d, k %d: Back of %d values: got %d coefficients", z.p, z.k, m, len(got))
			}
			wantList(t, z, "what Back answers, at the points", valuesAt(got, points[:m], z.p), err, leftBy(l, z.p))
			wantList(t, z, "what Back answers, taken by p", got, err, leftBy(got, z.p))
		}
	}
}

func TestAllSmallPolynomials(t *testing.T) { // P7.2
	for _, z := range []size{{2, 0}, {3, 0}, {3, 1}, {5, 0}, {5, 1}, {5, 2}, {7, 1}, {13, 2}, {17, 0}, {17, 1}} {
		plan, points := planOf(t, z.p, z.k), pointsOf(t, z.p, z.k)
		for m := range 1<<z.k + 1 {
			l := make([]uint64, m)
			for {
				values, err := plan.Go(l, m)
				wantList(t, z, "Go", values, err, valuesAt(l, points[:m], z.p))
				back, err := plan.Back(values)
				wantList(t, z, "Back", back, err, l)
				if !next(l, z.p) {
					break
				}
			}
		}
	}
}

// next makes of l the next list of numbers below p, if there is one.
func next(l []uint64, p uint64) bool {
	for i := range l {
		if l[i]++; l[i] < p {
			return true
		}
		l[i] = 0
	}
	return false
}

func TestGreatestPlans(t *testing.T) { // P7.2, at the limit of k
	s := source(4)
	const n = 1 << 20
	for i, p := range append(greatPrimes(t), 998244353) {
		z := size{p, 20}
		plan, points := planOf(t, z.p, z.k), pointsOf(t, z.p, z.k)
		for _, m := range [][]int{{n, n/2 + 1, 0}, {n - 1, 1}, {777777, n / 2}}[i] {
			l := s.words(n)[:m]
			values, err := plan.Go(l, m)
			if err != api.OK || len(values) != m {
				t.Fatalf("p %d: Go at %d points: %d numbers, error %d", p, m, len(values), int(err))
			}
			for _, i := range []int{0, 1, 2, 3, n/2 - 1, n / 2, n/2 + 1, 777776, n - 1} {
				if i < m && values[i] != valueAt(l, points[i], p) {
					t.Errorf("p %d: Go at %d points: got %d at %d, want %d", p, m, values[i], i, valueAt(l, points[i], p))
				}
			}
			back, err := plan.Back(values)
			wantList(t, z, "Back of Go", back, err, leftBy(l, p))
		}
	}
}

func TestWrongLengths(t *testing.T) { // P7.2
	for _, z := range []size{{2, 0}, {17, 0}, {17, 1}, {17, 2}, {17, 4}, {998244353, 10}} {
		plan := planOf(t, z.p, z.k)
		n := 1 << z.k
		for _, many := range []int{n + 1, n + 2, 2 * n, 4 * n, n + 1<<20} {
			long := make([]uint64, many)
			got, err := plan.Back(long)
			wantErr(t, z, "Back of too many", got, err, api.ErrLimit)
			for _, m := range []int{0, 1, n, n + 1, many, -1, math.MinInt, math.MaxInt} {
				got, err = plan.Go(long, m)
				wantErr(t, z, "Go of too many", got, err, api.ErrLimit)
			}
		}
		for _, l := range [][]uint64{nil, {}, {1}, make([]uint64, n)} {
			for _, m := range []int{-1, -n, math.MinInt, n + 1, 2 * n, 1<<20 + 1, math.MaxInt} {
				got, err := plan.Go(l, m)
				wantErr(t, z, "Go at too many or too few", got, err, api.ErrArg)
			}
		}
	}
}
