package term_test

import (
	"math"
	"math/big"
	"slices"
	"testing"

	"vinculum/api"
	"vinculum/term"
)

// mostPacks is the greatest product of a base.
const mostPacks = 4503599627370496

func wantPack(t *testing.T, a, base list, want int, err api.Errno) {
	t.Helper()
	if n, e := term.Pack(a, base); n != want || e != err {
		t.Errorf("Pack of %d by %d: got %d, error %d, want %d, error %d", a, base, n, int(e), want, int(err))
	}
}

func wantUnpack(t *testing.T, n int, base, want list, err api.Errno) {
	t.Helper()
	if a, e := term.Unpack(n, base); !slices.Equal(a, want) || e != err {
		t.Errorf("Unpack of %d by %d: got %d, error %d, want %d, error %d", n, base, a, int(e), want, int(err))
	}
}

// packOf is the sum of the exponents, each times what the bases ahead of it come to.
func packOf(a, base list) int {
	sum, place := 0, 1
	for i, x := range a {
		sum += x * place
		place *= base[i]
	}
	return sum
}

// productOf is that of a base, however great.
func productOf(base list) *big.Int {
	product := big.NewInt(1)
	for _, b := range base {
		product.Mul(product, big.NewInt(int64(b)))
	}
	return product
}

func isMore(base list) bool { return productOf(base).Cmp(big.NewInt(mostPacks)) > 0 }

// fits is whether each exponent is smaller than its base.
func fits(a, base list) bool {
	fit := true
	for i, x := range a {
		fit = fit && x < base[i]
	}
	return fit
}

// base is n numbers whose product may be.
func (s *source) base(n, greatest int) list {
	for {
		l := make(list, n)
		for i := range l {
			l[i] = 1 + s.below(greatest)
		}
		if !isMore(l) {
			return l
		}
	}
}

func TestPack(t *testing.T) { // P13.3
	cases := []struct {
		a, base list
		want    int
	}{
		{list{2, 1}, list{10, 5}, 12}, {nil, nil, 0}, {list{}, list{}, 0}, {list{9, 4}, list{10, 5}, 49}, {list{0, 0}, list{10, 5}, 0}, {list{0, 0, 7}, list{3, 4, 8}, 84}, {list{2, 3, 7}, list{3, 4, 8}, 95}, {list{0}, list{1}, 0}, {make(list, 8), filled(8, 1), 0},
		{list{0, 3, 0, 2}, list{1, 5, 1, 3}, 13}, {list{1, 1, 1, 1, 1, 1, 1, 1}, filled(8, 2), 255}, {filled(8, 89), filled(8, 90), 4304672099999999},
		// Up to the greatest product, and exponents.
		{list{1, 1}, list{1 << 26, 1 << 26}, 1<<26 + 1}, {list{most}, list{mostPacks}, most}, {list{most}, list{most + 1}, most}, {list{most, 0}, list{mostPacks, 1}, most}, {list{0, most}, list{1, mostPacks}, most}, {list{most, most}, list{1 << 26, 1 << 26}, most<<26 + most}, {list{3, most}, list{1 << 31, 1<<20 + 1}, most<<31 + 3},
	}
	for _, c := range cases {
		wantPack(t, c.a, c.base, c.want, api.OK)
		wantUnpack(t, c.want, c.base, c.a, api.OK)
	}
}

func TestPackErrors(t *testing.T) { // P13.3
	cases := []struct {
		a, base list
		err     api.Errno
	}{
		// Not as many.
		{nil, list{1}, api.ErrArg}, {list{0}, nil, api.ErrArg}, {list{1}, list{5, 5}, api.ErrArg}, {list{1, 1}, list{5}, api.ErrArg}, {make(list, 8), filled(9, 1), api.ErrArg}, {make(list, 9), filled(9, 1), api.ErrArg}, {make(list, 9), filled(8, 1), api.ErrArg},
		// A base below 1.
		{list{1}, list{0}, api.ErrArg}, {list{0}, list{0}, api.ErrArg}, {list{0}, list{-1}, api.ErrArg}, {list{0, 0}, list{5, 0}, api.ErrArg}, {list{0, 0}, list{math.MinInt, 5}, api.ErrArg}, {list{0, 0}, list{-2, -2}, api.ErrArg},
		// Not smaller than the base.
		{list{10, 4}, list{10, 5}, api.ErrArg}, {list{9, 5}, list{10, 5}, api.ErrArg}, {list{11, 0}, list{10, 5}, api.ErrArg}, {list{1}, list{1}, api.ErrArg}, {list{most}, list{most}, api.ErrArg}, {list{0, 0, 0, 0, 0, 0, 0, 1}, filled(8, 1), api.ErrArg},
		// The product is too great.
		{list{1, 1}, list{1 << 26, 1<<26 + 1}, api.ErrLimit}, {list{0}, list{mostPacks + 1}, api.ErrLimit}, {list{0, 0}, list{mostPacks, 2}, api.ErrLimit}, {list{0, 0}, list{2, mostPacks}, api.ErrLimit}, {list{0}, list{math.MaxInt}, api.ErrLimit}, {filled(8, 90), filled(8, 91), api.ErrLimit},
		// Where the product comes round to 0, to 1 or to something small.
		{list{0, 0}, list{1 << 32, 1 << 32}, api.ErrLimit}, {list{0, 0}, list{math.MaxInt, math.MaxInt}, api.ErrLimit}, {filled(8, 0), filled(8, 1<<62), api.ErrLimit}, {filled(4, 0), filled(4, 1<<16), api.ErrLimit}, {list{0, 0}, list{3, 6148914691236517206}, api.ErrLimit},
		// ErrArg goes ahead.
		{list{0, 0}, list{math.MaxInt, 0}, api.ErrArg}, {list{0, 5}, list{mostPacks, 5}, api.ErrArg}, {list{0}, list{mostPacks, mostPacks}, api.ErrArg}, {list{most + 1}, list{mostPacks + 1}, api.ErrArg}, {list{-1}, list{mostPacks + 1}, api.ErrArg},
	}
	for _, c := range cases {
		wantPack(t, c.a, c.base, 0, c.err)
	}
	for _, a := range mayNotBe() {
		wantPack(t, a, filled(len(a), 1), 0, api.ErrArg)
		wantPack(t, a, filled(len(a), math.MaxInt), 0, api.ErrArg)
	}
}

func TestUnpackErrors(t *testing.T) { // P13.3
	cases := []struct {
		n    int
		base list
		err  api.Errno
	}{
		{0, filled(9, 1), api.ErrArg}, {0, filled(1000, 1), api.ErrArg}, {0, list{0}, api.ErrArg}, {0, list{-1}, api.ErrArg}, {0, list{5, 0}, api.ErrArg}, {0, list{math.MinInt, 5}, api.ErrArg}, {0, list{-2, -2}, api.ErrArg},
		// An improper base goes ahead of its product.
		{0, list{mostPacks + 1, 0}, api.ErrArg}, {0, list{math.MaxInt, math.MaxInt, -1}, api.ErrArg}, {0, filled(9, mostPacks), api.ErrArg},
		// The product goes ahead of the number.
		{0, list{mostPacks + 1}, api.ErrLimit}, {-1, list{mostPacks + 1}, api.ErrLimit}, {math.MaxInt, list{mostPacks, 2}, api.ErrLimit}, {math.MinInt, list{math.MaxInt}, api.ErrLimit}, {0, list{1 << 32, 1 << 32}, api.ErrLimit}, {0, filled(8, 1<<62), api.ErrLimit}, {0, list{3, 6148914691236517206}, api.ErrLimit}, {0, filled(8, 91), api.ErrLimit},
		{50, list{10, 5}, api.ErrArg}, {51, list{10, 5}, api.ErrArg}, {-1, list{10, 5}, api.ErrArg}, {math.MinInt, list{10, 5}, api.ErrArg}, {math.MaxInt, list{10, 5}, api.ErrArg}, {1, nil, api.ErrArg}, {-1, nil, api.ErrArg}, {1, filled(8, 1), api.ErrArg}, {mostPacks, list{mostPacks}, api.ErrArg}, {-1, list{mostPacks}, api.ErrArg},
		// Exponents that are too great.
		{most + 1, list{most + 2}, api.ErrLimit}, {1 << 30, list{1 << 40}, api.ErrLimit}, {mostPacks - 1, list{mostPacks}, api.ErrLimit}, {(most + 1) << 26, list{1 << 26, 1 << 26}, api.ErrLimit}, {most + 1, list{1 << 26, 1 << 26}, api.ErrLimit}, {most + 1, list{1, mostPacks}, api.ErrLimit},
	}
	for _, c := range cases {
		wantUnpack(t, c.n, c.base, nil, c.err)
	}
	wantUnpack(t, most, list{most + 2}, list{most}, api.OK)
	wantUnpack(t, 0, list{mostPacks}, list{0}, api.OK)
	wantUnpack(t, 0, nil, nil, api.OK)
}

func TestAllSmallPacks(t *testing.T) { // P13.3, P13.4: each number below the product is the pack of one alone
	bases := append(allOf(4, 3), list{1}, list{7}, list{3, 4, 2, 5}, filled(8, 2), list{1, 2, 1, 3, 1, 1, 2, 1})
	for _, base := range bases {
		if slices.Min(base) < 1 {
			wantPack(t, make(list, len(base)), base, 0, api.ErrArg)
			continue
		}
		count := int(productOf(base).Int64())
		seen := make([]int, count)
		for n := range count {
			a, err := term.Unpack(n, base)
			if err != api.OK || len(a) != len(base) || !may(a) || packOf(a, base) != n {
				t.Fatalf("Unpack of %d by %d: got %d, error %d", n, base, a, int(err))
			}
			wantPack(t, a, base, n, api.OK)
		}
		for _, a := range allOf(slices.Max(base), len(base)) {
			if !fits(a, base) {
				wantPack(t, a, base, 0, api.ErrArg)
				continue
			}
			wantPack(t, a, base, packOf(a, base), api.OK)
			seen[packOf(a, base)]++
		}
		if slices.Min(seen) != 1 || slices.Max(seen) != 1 {
			t.Errorf("by %d packs are not told apart: %d", base, seen)
		}
	}
}

func TestManyPacks(t *testing.T) { // P13.3, P13.4
	s := source(21)
	for n := 1; n <= manyVars; n++ {
		for _, greatest := range []int{2, 10, 91, 1 << (52/n - 1), min(1<<(52/n), most+1)} {
			for range 50 {
				base := s.base(n, greatest)
				a := make(list, n)
				for i, b := range base {
					a[i] = s.below(min(b, most+1))
				}
				wantPack(t, a, base, packOf(a, base), api.OK)
				wantUnpack(t, packOf(a, base), base, a, api.OK)
			}
		}
	}
}

func TestProductsJustAboutTheLimit(t *testing.T) { // P13.3
	s := source(22)
	for n := 1; n <= manyVars; n++ {
		for range 200 {
			base := make(list, n)
			left := mostPacks
			for i := range n - 1 {
				base[i] = 1 + s.below(min(left, 1<<20))
				left /= base[i]
			}
			base[n-1] = left
			wantPack(t, make(list, n), base, 0, api.OK)
			wantUnpack(t, 0, base, make(list, n), api.OK)
			base[n-1]++
			if !isMore(base) {
				t.Fatalf("%d is no base that is too great", base)
			}
			wantPack(t, make(list, n), base, 0, api.ErrLimit)
			wantUnpack(t, 0, base, nil, api.ErrLimit)
			slices.Reverse(base)
			wantPack(t, make(list, n), base, 0, api.ErrLimit)
			wantUnpack(t, 0, base, nil, api.ErrLimit)
		}
	}
}

func TestProductsPackAsSums(t *testing.T) { // P13.4: as long as none of it comes to its base
	s := source(23)
	for n := range manyVars + 1 {
		for range 200 {
			base := s.base(n, 91)
			a, b := make(list, n), make(list, n)
			for i := range base {
				a[i] = s.below(base[i])
				b[i] = s.below(base[i] - a[i])
			}
			product, err := term.Mul(a, b)
			if err != api.OK {
				t.Fatalf("Mul of %d, %d: error %d", a, b, int(err))
			}
			first, _ := term.Pack(a, base)
			second, _ := term.Pack(b, base)
			wantPack(t, product, base, first+second, api.OK)
		}
	}
}
