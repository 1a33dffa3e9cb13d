package bigint_test

import (
	"math"
	"math/big"
	"testing"

	"vinculum/api"
	"vinculum/bigint"
	"vinculum/nat"
)

func TestPow(t *testing.T) { // P2.3
	s := source(6)
	list := []bigint.Int{bigint.Of(0), bigint.Of(1), bigint.Of(-1), bigint.Of(2), bigint.Of(-2), bigint.Of(10), bigint.Of(math.MinInt)}
	for n := range 8 {
		list = append(list, s.number(n))
	}
	for _, x := range list {
		for _, n := range []int{0, 1, 2, 3, 4, 5, 6, 7, 8, 9, 15, 16, 17, 100, 101} {
			got, err := x.Pow(n)
			wantErr(t, "Pow", err, api.OK)
			same(t, "Pow", got, new(big.Int).Exp(toBig(x), big.NewInt(int64(n)), nil))
		}
	}
}

func TestPowIsProducts(t *testing.T) { // P2.3
	for _, x := range []bigint.Int{bigint.Of(3), bigint.Of(-3), bigint.From(true, nat.Nat{5, 9})} {
		want := bigint.Of(1)
		for n := range 70 {
			got, err := x.Pow(n)
			if err != api.OK || got.Cmp(want) != 0 {
				t.Errorf("%s to the %dth: got %s, %v", x.Print(), n, got.Print(), err)
			}
			want = want.Mul(x)
		}
	}
}

func TestPowLimits(t *testing.T) { // P2.3
	top := make(nat.Nat, 4096)
	top[4095] = 1 << 63
	beyond := make(nat.Nat, 4097)
	beyond[4096] = 1
	widest, above := bigint.From(true, top), bigint.From(false, beyond)
	cases := []struct {
		x    bigint.Int
		n    int
		want api.Errno
	}{
		{bigint.Of(2), -1, api.ErrArg}, {bigint.Of(0), -1, api.ErrArg}, {bigint.Of(2), math.MinInt, api.ErrArg},
		{above, -1, api.ErrArg},
		{bigint.Of(0), 1, api.OK}, {bigint.Of(0), 262145, api.OK}, {bigint.Of(0), math.MaxInt, api.OK},
		{bigint.Of(1), 262144, api.OK}, {bigint.Of(1), 262145, api.ErrLimit}, {bigint.Of(1), math.MaxInt, api.ErrLimit},
		{bigint.Of(-1), 262143, api.OK}, {bigint.Of(-1), 262144, api.OK}, {bigint.Of(-1), 262145, api.ErrLimit},
		{bigint.Of(2), 131072, api.OK}, {bigint.Of(2), 131073, api.ErrLimit}, {bigint.Of(-2), 131073, api.ErrLimit},
		{bigint.Of(5), 87381, api.OK}, {bigint.Of(5), 87382, api.ErrLimit},
		{bigint.Of(2), 1 << 62, api.ErrLimit}, {bigint.Of(2), 1<<62 + 1, api.ErrLimit}, {bigint.Of(4), math.MaxInt, api.ErrLimit},
		{bigint.Of(math.MinInt), 4096, api.OK}, {bigint.Of(math.MinInt), 4097, api.ErrLimit},
		{widest, 0, api.OK}, {widest, 1, api.OK}, {widest, 2, api.ErrLimit},
		{above, 0, api.OK}, {above, 1, api.ErrLimit},
	}
	for i, c := range cases {
		got, err := c.x.Pow(c.n)
		if err != c.want {
			t.Errorf("%d: a power by %d: got %v, want %v", i, c.n, err, c.want)
		}
		if c.want != api.OK {
			wantNone(t, "Pow", got)
			continue
		}
		same(t, "Pow", got, bigPower(c.x, c.n))
	}
}

// bigPower knows 0 by itself: its exponent may be beyond what big goes through.
func bigPower(x bigint.Int, n int) *big.Int {
	if x.Sign() == 0 && n > 0 {
		return new(big.Int)
	}
	return new(big.Int).Exp(toBig(x), big.NewInt(int64(n)), nil)
}
