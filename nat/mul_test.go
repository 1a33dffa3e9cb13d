package nat_test

import (
	"math"
	"math/big"
	"slices"
	"testing"

	"vinculum/api"
	"vinculum/nat"
)

// full has the greatest words alone: each carry that may be is there.
func full(words int) nat.Nat {
	x := make(nat.Nat, words)
	for i := range x {
		x[i] = math.MaxUint64
	}
	return x
}

func product(x, y nat.Nat) *big.Int { return new(big.Int).Mul(toBig(x), toBig(y)) }

func TestMul(t *testing.T) { // P1.1
	cases := []struct{ x, y, want nat.Nat }{
		{nil, nil, nil},
		{nil, nat.Nat{7, 8}, nil},
		{nat.Nat{0, 0}, nat.Nat{7, 8}, nil},
		{nat.Nat{1, 0}, nat.Nat{7, 8, 0}, nat.Nat{7, 8}},
		{nat.Nat{0, 1}, nat.Nat{0, 0, 1}, nat.Nat{0, 0, 0, 1}},
		{nat.Nat{1 << 63}, nat.Nat{2}, nat.Nat{0, 1}},
		{full(1), full(1), nat.Nat{1, math.MaxUint64 - 1}},
		{full(2), full(1), nat.Nat{1, math.MaxUint64, math.MaxUint64 - 1}},
	}
	for _, c := range cases {
		if got := nat.Mul(c.x, c.y); !slices.Equal(got, c.want) {
			t.Errorf("Mul(%v, %v): got %v, want %v", c.x, c.y, got, c.want)
		}
	}
	pairs(func(x, y nat.Nat) { same(t, "Mul", nat.Mul(x, y), product(x, y)) })
}

func TestProductsDoNotHangOnOrder(t *testing.T) { // P1.5
	s := source(3)
	pairs(func(x, y nat.Nat) {
		z := s.number(s.below(9))
		if nat.Cmp(nat.Mul(x, y), nat.Mul(y, x)) != 0 {
			t.Errorf("%v and %v, and the other way about", x, y)
		}
		if nat.Cmp(nat.Mul(nat.Mul(x, y), z), nat.Mul(x, nat.Mul(y, z))) != 0 {
			t.Errorf("%v and %v and %v", x, y, z)
		}
	})
}

func TestKaratsubaCuts(t *testing.T) { // P1.1
	for _, cut := range []int{math.MinInt, -1, 0, 1025, math.MaxInt} {
		for _, x := range []nat.Nat{nil, {5}, full(40)} {
			got, err := nat.Karatsuba(x, full(3), cut)
			wantErr(t, "a cut that may not be", err, api.ErrArg)
			wantNone(t, "a cut that may not be", got)
		}
	}
	for _, cut := range []int{1, 2, 1023, 1024} {
		got, err := nat.Karatsuba(nat.Nat{0, 3}, nat.Nat{5}, cut)
		wantErr(t, "a cut that may be", err, api.OK)
		same(t, "a cut that may be", got, product(nat.Nat{0, 15}, nat.Nat{1}))
	}
}

// karatsuba fails, if the product by some cut is not that word by word.
func karatsuba(t *testing.T, x, y nat.Nat, cuts ...int) {
	t.Helper()
	want := product(x, y)
	same(t, "Mul", nat.Mul(x, y), want)
	for _, cut := range cuts {
		got, err := nat.Karatsuba(x, y, cut)
		wantErr(t, "Karatsuba", err, api.OK)
		same(t, "Karatsuba", got, want)
		got, err = nat.Karatsuba(y, x, cut)
		wantErr(t, "Karatsuba", err, api.OK)
		same(t, "Karatsuba", got, want)
	}
}

func TestKaratsubaIsMul(t *testing.T) { // P1.1, P1.5
	pairs(func(x, y nat.Nat) { karatsuba(t, x, y, 1, 2, 3, 1024) })
}

func TestKaratsubaOfFullWords(t *testing.T) { // P1.1, P1.5
	for n := range 20 {
		for m := range n + 1 {
			karatsuba(t, full(n), full(m), 1, 2, 5)
		}
	}
}

func TestKaratsubaOfHalves(t *testing.T) { // P1.1, P1.5
	s := source(4)
	hole := append(append(full(3), make(nat.Nat, 5)...), full(2)...)
	lows := append(make(nat.Nat, 6), full(6)...)
	highs := append(full(6), make(nat.Nat, 6)...)
	list := []nat.Nat{nil, {1}, hole, lows, highs, full(12), s.number(11), s.number(33)}
	for _, x := range list {
		for _, y := range list {
			karatsuba(t, x, y, 1, 2, 3, 4, 7)
		}
	}
}

func TestKaratsubaOfLongNumbers(t *testing.T) { // P1.1, P1.5
	s := source(5)
	for _, c := range []struct{ n, m int }{{100, 100}, {200, 3}, {257, 129}, {255, 128}, {2100, 1500}} {
		karatsuba(t, s.number(c.n), s.number(c.m), 1, 16, 1024)
	}
}
