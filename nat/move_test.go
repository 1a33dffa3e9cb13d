package nat_test

import (
	"math"
	"math/big"
	"testing"

	"vinculum/api"
	"vinculum/nat"
)

func TestShl(t *testing.T) { // P1.3
	s := source(11)
	pairs(func(x, _ nat.Nat) {
		for _, n := range []int{0, 1, 63, 64, 65, 127, 128, s.below(700)} {
			got, err := nat.Shl(x, n)
			wantErr(t, "Shl", err, api.OK)
			same(t, "Shl", got, new(big.Int).Lsh(toBig(x), uint(n)))
		}
	})
}

func TestShlLimits(t *testing.T) { // P1.3
	cases := []struct {
		n    int
		want api.Errno
	}{
		{math.MinInt, api.ErrArg}, {-64, api.ErrArg}, {-1, api.ErrArg},
		{0, api.OK}, {262143, api.OK}, {262144, api.OK},
		{262145, api.ErrLimit}, {math.MaxInt, api.ErrLimit},
	}
	for _, x := range []nat.Nat{nil, {0, 0}, {1}, {5, 7, 0}} {
		for _, c := range cases {
			got, err := nat.Shl(x, c.n)
			wantErr(t, "Shl", err, c.want)
			if c.want != api.OK {
				wantNone(t, "Shl", got)
				continue
			}
			same(t, "Shl", got, new(big.Int).Lsh(toBig(x), uint(c.n)))
		}
	}
}

func TestShr(t *testing.T) { // P1.3
	s := source(12)
	pairs(func(x, _ nat.Nat) {
		for _, n := range []int{0, 1, 63, 64, 65, 127, 128, s.below(700)} {
			got, err := nat.Shr(x, n)
			wantErr(t, "Shr", err, api.OK)
			same(t, "Shr", got, new(big.Int).Rsh(toBig(x), uint(n)))
		}
	})
}

func TestShrLimits(t *testing.T) { // P1.3
	for _, x := range []nat.Nat{nil, {0, 0}, {1}, {5, 7, 0}} {
		for _, n := range []int{math.MinInt, -64, -1} {
			got, err := nat.Shr(x, n)
			wantErr(t, "Shr by less than 0", err, api.ErrArg)
			wantNone(t, "Shr by less than 0", got)
		}
		for _, n := range []int{192, 262144, 262145, math.MaxInt} {
			got, err := nat.Shr(x, n)
			wantErr(t, "Shr of all", err, api.OK)
			same(t, "Shr of all", got, new(big.Int))
		}
	}
	far, _ := nat.Shl(nat.Nat{3, 1}, 262144)
	far = nat.Mul(far, far)
	got, err := nat.Shr(far, 2*262144)
	wantErr(t, "Shr by more than Shl's limit", err, api.OK)
	same(t, "Shr by more than Shl's limit", got, product(nat.Nat{3, 1}, nat.Nat{3, 1}))
}

func TestBits(t *testing.T) { // P1.3
	cases := []struct {
		x    nat.Nat
		want int
	}{
		{nil, 0}, {nat.Nat{0, 0}, 0}, {nat.Nat{1}, 1}, {nat.Nat{1, 0}, 1}, {nat.Nat{2}, 2}, {nat.Nat{3}, 2},
		{nat.Nat{4}, 3}, {nat.Nat{1<<63 - 1}, 63}, {nat.Nat{1 << 63}, 64}, {full(1), 64},
		{nat.Nat{0, 1}, 65}, {nat.Nat{9, 1, 0}, 65}, {full(3), 192},
	}
	for _, c := range cases {
		if got := nat.Bits(c.x); got != c.want {
			t.Errorf("Bits(%v): got %d, want %d", c.x, got, c.want)
		}
	}
	pairs(func(x, _ nat.Nat) {
		if got, want := nat.Bits(x), toBig(x).BitLen(); got != want {
			t.Errorf("Bits(%v): got %d, want %d", x, got, want)
		}
	})
}
