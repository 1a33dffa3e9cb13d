package tft_test

import (
	"slices"
	"testing"

	"vinculum/api"
	"vinculum/tft"
)

func goOf(t *testing.T, plan *tft.Plan, l []uint64, m int) []uint64 {
	t.Helper()
	values, err := plan.Go(l, m)
	if err != api.OK {
		t.Fatalf("Go: error %d", int(err))
	}
	return values
}

// wantThereAndBack holds Back of Go, and Go of Back, against what they were made of.
func wantThereAndBack(t *testing.T, z size, plan *tft.Plan, l []uint64) {
	t.Helper()
	got, err := plan.Back(goOf(t, plan, l, len(l)))
	wantList(t, z, "Back of Go", got, err, leftBy(l, z.p))
	back, err := plan.Back(l)
	wantList(t, z, "Go of Back", goOf(t, plan, back, len(l)), err, leftBy(l, z.p))
}

func TestBackOfGoIsThePolynomial(t *testing.T) { // P7.4: of every length
	s := source(21)
	for _, z := range sizes(t, 8) {
		plan := planOf(t, z.p, z.k)
		for m := range 1<<z.k + 1 {
			wantThereAndBack(t, z, plan, s.words(m))
		}
	}
}

func TestBackOfGoOfManyNumbers(t *testing.T) { // P7.4
	s := source(22)
	for _, z := range sizes(t, 14) {
		plan := planOf(t, z.p, z.k)
		for range 4 {
			wantThereAndBack(t, z, plan, s.words(s.below(1<<z.k+1)))
		}
		wantThereAndBack(t, z, plan, s.words(1<<z.k))
	}
}

func TestNoPointComesTwice(t *testing.T) { // P7.4
	for _, z := range append(sizes(t, 12), size{998244353, 20}, size{greatPrimes(t)[0], 20}) {
		plan := planOf(t, z.p, z.k)
		points := make([]uint64, plan.Most())
		for i := range points {
			points[i], _ = plan.Point(i)
		}
		slices.Sort(points)
		if n := len(slices.Compact(points)); n != 1<<z.k {
			t.Errorf("p %d, k %d: got %d points", z.p, z.k, n)
		}
	}
}

func TestGoOfXIsThePoints(t *testing.T) { // P7.2: the points of Go are those of Point
	for _, z := range sizes(t, 12) {
		if z.k == 0 {
			continue
		}
		plan := planOf(t, z.p, z.k)
		wantPoints(t, z, plan, goOf(t, plan, []uint64{0, 1}, 1<<z.k))
	}
}

func TestFewerValuesAreTheFirst(t *testing.T) { // P7.2
	s := source(23)
	for _, z := range sizes(t, 10) {
		plan := planOf(t, z.p, z.k)
		l := s.words(1 << z.k)
		all := goOf(t, plan, l, 1<<z.k)
		for range 8 {
			m := s.below(1<<z.k + 1)
			got, err := plan.Go(l, m)
			wantList(t, z, "Go at fewer points", got, err, all[:m])
		}
	}
}

func TestGoOfAProductIsTheProducts(t *testing.T) { // P7.3
	s := source(24)
	for _, z := range sizes(t, 12) {
		plan := planOf(t, z.p, z.k)
		n := 1 << z.k
		i := 1 + s.below(n)
		a, b := s.words(i), s.words(n+1-i)
		product, err := plan.Mul(a, b)
		if err != api.OK {
			t.Fatalf("p %d, k %d: Mul: error %d", z.p, z.k, int(err))
		}
		want := goOf(t, plan, a, n)
		for i, y := range goOf(t, plan, b, n) {
			want[i] = times(want[i], y, z.p)
		}
		wantList(t, z, "Go of a product", goOf(t, plan, product, n), err, want)
	}
}
