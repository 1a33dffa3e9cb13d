package ntt_test

import (
	"testing"

	"vinculum/api"
	"vinculum/ntt"
)

func sums(a, b []uint64, p uint64) []uint64 {
	l := make([]uint64, len(a))
	for i := range l {
		l[i] = plus(a[i], b[i], p)
	}
	return l
}

func products(a, b []uint64, p uint64) []uint64 {
	l := make([]uint64, len(a))
	for i := range l {
		l[i] = times(a[i], b[i], p)
	}
	return l
}

func goOf(t *testing.T, table *ntt.Table, l []uint64) []uint64 {
	t.Helper()
	values, err := table.Go(l)
	if err != api.OK {
		t.Fatalf("Go: error %d", int(err))
	}
	return values
}

func TestBackOfGoIsThePolynomial(t *testing.T) { // P6.4
	s := source(21)
	for _, z := range sizes(t, 12) {
		table := tableOf(t, z.p, z.k)
		l := s.words(1 << z.k)
		got, err := table.Back(goOf(t, table, l))
		wantList(t, z, "Back of Go", got, err, leftBy(l, z.p))
		back, err := table.Back(l)
		wantList(t, z, "Go of Back", goOf(t, table, back), err, leftBy(l, z.p))
	}
}

func TestGoOfASumIsTheSum(t *testing.T) { // P6.4
	s := source(22)
	for _, z := range sizes(t, 12) {
		table := tableOf(t, z.p, z.k)
		a, b := s.words(1<<z.k), s.words(1<<z.k)
		want := sums(goOf(t, table, a), goOf(t, table, b), z.p)
		got, err := table.Go(sums(a, b, z.p))
		wantList(t, z, "Go of a sum", got, err, want)
	}
}

func TestGoOfARoundIsTheProducts(t *testing.T) { // P6.4
	s := source(23)
	for _, z := range sizes(t, 12) {
		table := tableOf(t, z.p, z.k)
		a, b := s.words(1<<z.k), s.words(1<<z.k)
		round, err := table.Round(a, b)
		want := products(goOf(t, table, a), goOf(t, table, b), z.p)
		wantList(t, z, "Go of a Round", goOf(t, table, round), err, want)
	}
}

func TestProductIsARoundThatFits(t *testing.T) { // P6.3
	s := source(24)
	for _, z := range sizes(t, 12) {
		table := tableOf(t, z.p, z.k)
		n := 1 << z.k
		i := 1 + int(s.word()%uint64(n))
		a, b := s.words(i), s.words(n+1-i)
		product, err := table.Product(a, b)
		if err != api.OK {
			t.Fatalf("p %d, k %d: Product: error %d", z.p, z.k, int(err))
		}
		got, err := table.Round(longer(a, n), longer(b, n))
		wantList(t, z, "Round of lists with 0 behind them", got, err, product)
	}
}

// longer is a list with so many 0 behind it that it has n numbers.
func longer(l []uint64, n int) []uint64 { return append(l, make([]uint64, n-len(l))...) }
