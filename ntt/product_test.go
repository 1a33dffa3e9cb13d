package ntt_test

import (
	"math"
	"slices"
	"testing"

	"vinculum/api"
)

// plain is the product of two polynomials, place by place, as the definition says.
func plain(a, b []uint64, p uint64) []uint64 {
	if len(a) == 0 || len(b) == 0 {
		return nil
	}
	product := make([]uint64, len(a)+len(b)-1)
	for i, x := range a {
		for j, y := range b {
			product[i+j] = plus(product[i+j], times(x, y, p), p)
		}
	}
	return product
}

// plainRound is the same, and each place is taken by the lists' length.
func plainRound(a, b []uint64, p uint64) []uint64 {
	product := make([]uint64, len(a))
	for i, x := range plain(a, b, p) {
		at := i % len(a)
		product[at] = plus(product[at], x, p)
	}
	return product
}

func TestRound(t *testing.T) { // P6.3
	cases := []struct {
		size
		a, b, want []uint64
	}{
		{size{17, 2}, []uint64{0, 1, 0, 0}, []uint64{0, 0, 0, 1}, []uint64{1, 0, 0, 0}},
		{size{17, 2}, []uint64{0, 0, 0, 1}, []uint64{0, 0, 0, 1}, []uint64{0, 0, 1, 0}},
		{size{17, 2}, []uint64{1, 1, 0, 0}, []uint64{1, 1, 0, 0}, []uint64{1, 2, 1, 0}},
		{size{17, 2}, []uint64{1, 2, 3, 4}, []uint64{5, 6, 7, 8}, []uint64{15, 0, 15, 9}},
		{size{17, 2}, []uint64{18, 19, 37, 38}, []uint64{5, 6, 7, 8}, []uint64{15, 0, 15, 9}},
		{size{17, 2}, []uint64{1, 2, 3, 4}, []uint64{0, 0, 0, 0}, []uint64{0, 0, 0, 0}},
		{size{17, 2}, []uint64{1, 2, 3, 4}, []uint64{1, 0, 0, 0}, []uint64{1, 2, 3, 4}},
		{size{2, 0}, []uint64{3}, []uint64{5}, []uint64{1}}, {size{2, 0}, []uint64{3}, []uint64{4}, []uint64{0}},
		{size{7, 0}, []uint64{5}, []uint64{6}, []uint64{2}}, {size{3, 1}, []uint64{1, 2}, []uint64{2, 2}, []uint64{0, 0}},
		{size{3, 1}, []uint64{math.MaxUint64, 1}, []uint64{1, 1}, []uint64{1, 1}},
	}
	for _, c := range cases {
		table := tableOf(t, c.p, c.k)
		got, err := table.Round(c.a, c.b)
		wantList(t, c.size, "Round", got, err, c.want)
		got, err = table.Round(c.b, c.a)
		wantList(t, c.size, "Round the other way about", got, err, c.want)
	}
}

func TestRoundIsTheSumOfProducts(t *testing.T) { // P6.3
	s := source(11)
	for _, z := range sizes(t, 7) {
		table := tableOf(t, z.p, z.k)
		for range 6 {
			a, b := s.words(1<<z.k), s.words(1<<z.k)
			got, err := table.Round(a, b)
			wantList(t, z, "Round", got, err, plainRound(a, b, z.p))
			got, err = table.Round(a, a)
			wantList(t, z, "Round of one list twice", got, err, plainRound(a, a, z.p))
		}
	}
}

func TestRoundMovesPlaces(t *testing.T) { // P6.3
	const k, n = 4, 16
	table := tableOf(t, 97, k)
	for i := range n {
		for j := range n {
			a, b, want := make([]uint64, n), make([]uint64, n), make([]uint64, n)
			a[i], b[j], want[(i+j)%n] = 5, 7, 35
			got, err := table.Round(a, b)
			wantList(t, size{97, k}, "Round of one power each", got, err, want)
		}
	}
}

func TestProduct(t *testing.T) { // P6.3
	cases := []struct {
		size
		a, b, want []uint64
	}{
		{size{17, 2}, []uint64{1, 2}, []uint64{3, 4, 5}, []uint64{3, 10, 13, 10}}, {size{17, 2}, []uint64{2}, []uint64{9}, []uint64{1}},
		{size{17, 2}, []uint64{1, 2, 3, 4}, []uint64{2}, []uint64{2, 4, 6, 8}}, {size{17, 2}, []uint64{1, 0}, []uint64{0, 0, 1}, []uint64{0, 0, 1, 0}},
		{size{17, 2}, []uint64{0, 0}, []uint64{0, 0, 0}, []uint64{0, 0, 0, 0}}, {size{17, 2}, []uint64{17, 18}, []uint64{34, 1}, []uint64{0, 0, 1}},
		{size{17, 2}, []uint64{1, 2, 3, 0}, []uint64{1}, []uint64{1, 2, 3, 0}},
		{size{2, 0}, []uint64{3}, []uint64{5}, []uint64{1}}, {size{7, 0}, []uint64{9}, []uint64{10}, []uint64{6}},
		{size{3, 1}, []uint64{2, 1}, []uint64{2}, []uint64{1, 2}}, {size{3, 1}, []uint64{2}, []uint64{2}, []uint64{1}},
	}
	for _, c := range cases {
		table := tableOf(t, c.p, c.k)
		got, err := table.Product(c.a, c.b)
		wantList(t, c.size, "Product", got, err, c.want)
		got, err = table.Product(c.b, c.a)
		wantList(t, c.size, "Product the other way about", got, err, c.want)
	}
}

func TestProductOfAllLengths(t *testing.T) { // P6.3
	s := source(12)
	for _, z := range sizes(t, 4) {
		table := tableOf(t, z.p, z.k)
		n := 1 << z.k
		for i := range n + 3 {
			for j := range n + 3 {
				a, b := s.words(i), s.words(j)
				got, err := table.Product(a, b)
				if i > 0 && j > 0 && i+j >= n+2 {
					wantErr(t, z, "Product", got, err, api.ErrLimit)
				} else {
					wantList(t, z, "Product", got, err, plain(a, b, z.p))
				}
			}
		}
	}
}

func TestProductOfManyNumbers(t *testing.T) { // P6.3
	s := source(13)
	for _, z := range sizes(t, 9) {
		table := tableOf(t, z.p, z.k)
		n := 1 << z.k
		i := 1 + int(s.word()%uint64(n))
		j := n + 1 - i
		a, b := s.words(i), s.words(j)
		got, err := table.Product(a, b)
		wantList(t, z, "Product, just as great as may be", got, err, plain(a, b, z.p))
		got, err = table.Product(a, s.words(j+1))
		wantErr(t, z, "Product, one too great", got, err, api.ErrLimit)
		a, b = s.words(i/2), s.words(j/3)
		got, err = table.Product(a, b)
		wantList(t, z, "Product", got, err, plain(a, b, z.p))
		got, err = table.Product(a, a)
		wantList(t, z, "Product of one list twice", got, err, plain(a, a, z.p))
	}
}

func TestProductWithNone(t *testing.T) { // P6.3: the other one may have any length
	for _, z := range []size{{2, 0}, {17, 0}, {17, 2}, {998244353, 10}} {
		table := tableOf(t, z.p, z.k)
		for _, n := range []int{0, 1, 1 << z.k, 1<<z.k + 1, 1<<z.k + 2, 4<<z.k + 5} {
			for _, none := range [][]uint64{nil, {}} {
				some := make([]uint64, n)
				got, err := table.Product(none, some)
				wantList(t, z, "Product of none", got, err, nil)
				got, err = table.Product(some, none)
				wantList(t, z, "Product with none", got, err, nil)
			}
		}
	}
}

func TestGreatestProducts(t *testing.T) { // P6.3, at the limit of k
	const n = 1 << 20
	for _, p := range append(greatPrimes(t), 998244353) {
		z := size{p, 20}
		table := tableOf(t, z.p, z.k)
		less := slices.Repeat([]uint64{p - 1}, n/2)
		more := slices.Repeat([]uint64{p + 1}, n/2+1)
		want := make([]uint64, n)
		for i := range want {
			want[i] = p - uint64(min(i+1, n/2, n-i))
		}
		got, err := table.Product(less, more)
		wantList(t, z, "Product of rows", got, err, want)
		got, err = table.Product(more, more)
		wantErr(t, z, "Product of greater rows", got, err, api.ErrLimit)
		whole := slices.Repeat([]uint64{3}, n)
		got, err = table.Product(whole, []uint64{p + 2})
		wantList(t, z, "Product with one number", got, err, slices.Repeat([]uint64{6}, n))
		got, err = table.Round(whole, whole)
		wantList(t, z, "Round of rows", got, err, slices.Repeat([]uint64{9 * n}, n))
	}
}

func TestShortProductsOfGreatTables(t *testing.T) { // P6.3: each length up to some
	s := source(14)
	p := greatPrimes(t)[0]
	table := tableOf(t, p, 20)
	for i := range 20 {
		for j := range 20 {
			a, b := s.words(i), s.words(j)
			got, err := table.Product(a, b)
			wantList(t, size{p, 20}, "Product", got, err, plain(a, b, p))
		}
	}
}
