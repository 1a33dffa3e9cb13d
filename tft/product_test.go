package tft_test

import (
	"math"
	"slices"
	"testing"

	"vinculum/api"
)

// plain is the product of two polynomials, place by place, as the definition says.
func plain(a, b []uint64, p uint64) []uint64 {
	if len(a) == 0 || len(b) == 0 {
		return nil
	}
	product := make([]uint64, len(a)+len(b)-1)
	for i, x := range a {
		for j, y := range b {
			product[i+j] = plus(product[i+j], times(x, y, p), p)
		}
	}
	return product
}

func TestMul(t *testing.T) { // P7.3
	cases := []struct {
		size
		a, b, want []uint64
	}{
		{size{17, 2}, []uint64{1, 2}, []uint64{3, 4, 5}, []uint64{3, 10, 13, 10}}, {size{17, 2}, []uint64{2}, []uint64{9}, []uint64{1}},
		{size{17, 2}, []uint64{1, 1}, []uint64{1, 16}, []uint64{1, 0, 16}},
		{size{17, 2}, []uint64{1, 2, 3, 4}, []uint64{2}, []uint64{2, 4, 6, 8}}, {size{17, 2}, []uint64{1, 0}, []uint64{0, 0, 1}, []uint64{0, 0, 1, 0}},
		{size{17, 2}, []uint64{0, 0}, []uint64{0, 0, 0}, []uint64{0, 0, 0, 0}}, {size{17, 2}, []uint64{17, 18}, []uint64{34, 1}, []uint64{0, 0, 1}},
		{size{17, 2}, []uint64{1, 2, 3, 0}, []uint64{1}, []uint64{1, 2, 3, 0}}, {size{17, 2}, []uint64{math.MaxUint64}, []uint64{1}, []uint64{0}},
		{size{2, 0}, []uint64{3}, []uint64{5}, []uint64{1}}, {size{2, 0}, []uint64{3}, []uint64{4}, []uint64{0}}, {size{7, 0}, []uint64{9}, []uint64{10}, []uint64{6}},
		{size{3, 1}, []uint64{2, 1}, []uint64{2}, []uint64{1, 2}}, {size{3, 1}, []uint64{2}, []uint64{2}, []uint64{1}},
	}
	for _, c := range cases {
		plan := planOf(t, c.p, c.k)
		got, err := plan.Mul(c.a, c.b)
		wantList(t, c.size, "Mul", got, err, c.want)
		got, err = plan.Mul(c.b, c.a)
		wantList(t, c.size, "Mul the other way about", got, err, c.want)
	}
}

func TestMulOfAllLengths(t *testing.T) { // P7.3
	s := source(11)
	for _, z := range sizes(t, 4) {
		plan := planOf(t, z.p, z.k)
		n := 1 << z.k
		for i := range n + 3 {
			for j := range n + 3 {
				a, b := s.words(i), s.words(j)
				got, err := plan.Mul(a, b)
				if i > 0 && j > 0 && i+j >= n+2 {
					wantErr(t, z, "Mul", got, err, api.ErrLimit)
				} else {
					wantList(t, z, "Mul", got, err, plain(a, b, z.p))
				}
			}
		}
	}
}

func TestMulOfManyNumbers(t *testing.T) { // P7.3
	s := source(12)
	for _, z := range sizes(t, 9) {
		plan := planOf(t, z.p, z.k)
		n := 1 << z.k
		i := 1 + s.below(n)
		j := n + 1 - i
		a, b := s.words(i), s.words(j)
		got, err := plan.Mul(a, b)
		wantList(t, z, "Mul, just as great as may be", got, err, plain(a, b, z.p))
		got, err = plan.Mul(a, s.words(j+1))
		wantErr(t, z, "Mul, one too great", got, err, api.ErrLimit)
		a, b = s.words(i/2), s.words(j/3)
		got, err = plan.Mul(a, b)
		wantList(t, z, "Mul", got, err, plain(a, b, z.p))
		got, err = plan.Mul(a, a)
		wantList(t, z, "Mul of one list twice", got, err, plain(a, a, z.p))
	}
}

func TestMulWithNone(t *testing.T) { // P7.3: the other one may have any length
	for _, z := range []size{{2, 0}, {17, 0}, {17, 2}, {998244353, 10}} {
		plan := planOf(t, z.p, z.k)
		for _, n := range []int{0, 1, 1 << z.k, 1<<z.k + 1, 1<<z.k + 2, 4<<z.k + 5} {
			for _, none := range [][]uint64{nil, {}} {
				some := make([]uint64, n)
				got, err := plan.Mul(none, some)
				wantList(t, z, "Mul of none", got, err, nil)
				got, err = plan.Mul(some, none)
				wantList(t, z, "Mul with none", got, err, nil)
			}
		}
	}
}

// row is the product of a row of p - 1 and a row of 1.
func row(less, more int, p uint64) []uint64 {
	l := make([]uint64, less+more-1)
	for i := range l {
		l[i] = p - uint64(min(i+1, less, more, len(l)-i))
	}
	return l
}

func TestGreatestProducts(t *testing.T) { // P7.3, at the limit of k
	const n = 1 << 20
	for i, p := range append(greatPrimes(t), 998244353) {
		z := size{p, 20}
		plan := planOf(t, z.p, z.k)
		less, more := []int{n / 2, n / 4, n / 3}[i], []int{n/2 + 1, n/4 + 2, n / 2}[i]
		got, err := plan.Mul(slices.Repeat([]uint64{p - 1}, less), slices.Repeat([]uint64{p + 1}, more))
		wantList(t, z, "Mul of rows", got, err, row(less, more, p))
		whole := slices.Repeat([]uint64{3}, n)
		got, err = plan.Mul(whole, []uint64{p + 2})
		wantList(t, z, "Mul with one number", got, err, slices.Repeat([]uint64{6}, n))
		got, err = plan.Mul(whole, []uint64{p + 2, 0})
		wantErr(t, z, "Mul of greater rows", got, err, api.ErrLimit)
	}
}

func TestShortProductsOfGreatPlans(t *testing.T) { // P7.3: each length up to some
	s := source(13)
	p := greatPrimes(t)[0]
	plan := planOf(t, p, 20)
	for i := range 20 {
		for j := range 20 {
			a, b := s.words(i), s.words(j)
			got, err := plan.Mul(a, b)
			wantList(t, size{p, 20}, "Mul", got, err, plain(a, b, p))
		}
	}
}
