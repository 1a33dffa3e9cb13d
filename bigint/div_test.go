package bigint_test

import (
	"math"
	"math/big"
	"testing"

	"vinculum/api"
	"vinculum/bigint"
	"vinculum/nat"
)

// floored is the quotient that is not above the true one, and what is left.
func floored(x, y *big.Int) (*big.Int, *big.Int) {
	q, left := new(big.Int).QuoRem(x, y, new(big.Int))
	if left.Sign() != 0 && left.Sign() != y.Sign() {
		q.Sub(q, big.NewInt(1))
		left.Add(left, y)
	}
	return q, left
}

func TestQuotientsOfSmallNumbers(t *testing.T) { // P2.2
	cases := []struct{ x, y, quo, rem, div, mod int }{
		{7, 2, 3, 1, 3, 1}, {-7, 2, -3, -1, -4, 1}, {7, -2, -3, 1, -4, -1}, {-7, -2, 3, -1, 3, -1},
		{6, 3, 2, 0, 2, 0}, {-6, 3, -2, 0, -2, 0}, {6, -3, -2, 0, -2, 0}, {-6, -3, 2, 0, 2, 0},
		{2, 5, 0, 2, 0, 2}, {-2, 5, 0, -2, -1, 3}, {2, -5, 0, 2, -1, -3}, {-2, -5, 0, -2, 0, -2},
		{0, 5, 0, 0, 0, 0}, {0, -5, 0, 0, 0, 0}, {9, 1, 9, 0, 9, 0}, {9, -1, -9, 0, -9, 0},
		{math.MinInt, math.MaxInt, -1, -1, -2, math.MaxInt - 1},
	}
	for _, c := range cases {
		q, left, err := bigint.Of(c.x).QuoRem(bigint.Of(c.y))
		wantErr(t, "QuoRem", err, api.OK)
		same(t, "QuoRem's quotient", q, big.NewInt(int64(c.quo)))
		same(t, "what QuoRem leaves", left, big.NewInt(int64(c.rem)))
		q, left, err = bigint.Of(c.x).DivMod(bigint.Of(c.y))
		wantErr(t, "DivMod", err, api.OK)
		same(t, "DivMod's quotient", q, big.NewInt(int64(c.div)))
		same(t, "what DivMod leaves", left, big.NewInt(int64(c.mod)))
	}
}

func TestQuoRem(t *testing.T) { // P2.2
	pairs(func(x, y bigint.Int) {
		q, left, err := x.QuoRem(y)
		if y.Sign() == 0 {
			wantErr(t, "QuoRem by 0", err, api.ErrDivZero)
			wantNone(t, "QuoRem by 0", q)
			wantNone(t, "QuoRem by 0", left)
			return
		}
		wantErr(t, "QuoRem", err, api.OK)
		wantQ, wantLeft := new(big.Int).QuoRem(toBig(x), toBig(y), new(big.Int))
		same(t, "QuoRem's quotient", q, wantQ)
		same(t, "what QuoRem leaves", left, wantLeft)
		if left.Sign() != 0 && left.Sign() != x.Sign() {
			t.Errorf("QuoRem of %s leaves %s", x.Print(), left.Print())
		}
	})
}

func TestDivMod(t *testing.T) { // P2.2
	pairs(func(x, y bigint.Int) {
		q, left, err := x.DivMod(y)
		if y.Sign() == 0 {
			wantErr(t, "DivMod by 0", err, api.ErrDivZero)
			wantNone(t, "DivMod by 0", q)
			wantNone(t, "DivMod by 0", left)
			return
		}
		wantErr(t, "DivMod", err, api.OK)
		wantQ, wantLeft := floored(toBig(x), toBig(y))
		same(t, "DivMod's quotient", q, wantQ)
		same(t, "what DivMod leaves", left, wantLeft)
		if left.Sign() != 0 && left.Sign() != y.Sign() {
			t.Errorf("DivMod by %s leaves %s", y.Print(), left.Print())
		}
	})
}

func TestExact(t *testing.T) { // P2.2
	pairs(func(x, y bigint.Int) {
		got, err := x.Exact(y)
		if y.Sign() == 0 {
			wantErr(t, "Exact by 0", err, api.ErrDivZero)
			wantNone(t, "Exact by 0", got)
			return
		}
		q, left := new(big.Int).QuoRem(toBig(x), toBig(y), new(big.Int))
		if left.Sign() != 0 {
			wantErr(t, "Exact of more", err, api.ErrInexact)
			wantNone(t, "Exact of more", got)
		} else {
			wantErr(t, "Exact", err, api.OK)
			same(t, "Exact", got, q)
		}
		got, err = x.Mul(y).Exact(y)
		wantErr(t, "Exact of a product", err, api.OK)
		same(t, "Exact of a product", got, toBig(x))
	})
}

func TestExactErrors(t *testing.T) { // P2.2
	cases := []struct {
		x, y, q int
		want    api.Errno
	}{
		{7, 2, 0, api.ErrInexact}, {-7, 2, 0, api.ErrInexact}, {7, -2, 0, api.ErrInexact}, {1, 2, 0, api.ErrInexact},
		{-8, 2, -4, api.OK}, {-8, -2, 4, api.OK}, {0, -2, 0, api.OK}, {7, 7, 1, api.OK},
		{7, 0, 0, api.ErrDivZero}, {0, 0, 0, api.ErrDivZero}, {-7, 0, 0, api.ErrDivZero},
	}
	for _, c := range cases {
		q, err := bigint.Of(c.x).Exact(bigint.Of(c.y))
		wantErr(t, "Exact", err, c.want)
		same(t, "Exact", q, big.NewInt(int64(c.q)))
	}
}

func TestGcd(t *testing.T) { // P2.2
	cases := []struct{ x, y, want int }{
		{0, 0, 0}, {0, 5, 5}, {0, -5, 5}, {-5, 0, 5}, {12, 18, 6}, {-12, 18, 6}, {12, -18, 6}, {-12, -18, 6},
		{1, 7, 1}, {-1, -7, 1}, {7, 7, 7}, {-7, 7, 7},
	}
	for _, c := range cases {
		same(t, "Gcd", bigint.Of(c.x).Gcd(bigint.Of(c.y)), big.NewInt(int64(c.want)))
	}
	s := source(5)
	pairs(func(x, y bigint.Int) {
		z := s.number(1 + s.below(3))
		x, y = x.Mul(z), y.Mul(z)
		a, b := new(big.Int).Abs(toBig(x)), new(big.Int).Abs(toBig(y))
		same(t, "Gcd", x.Gcd(y), new(big.Int).GCD(nil, nil, a, b))
	})
}

func TestMod(t *testing.T) { // P2.2
	words := []uint64{1, 2, 3, 7, 10, 1 << 32, 1<<63 - 1, 1 << 63, 1<<63 + 1, math.MaxUint64 - 1, math.MaxUint64}
	pairs(func(x, _ bigint.Int) {
		got, err := x.Mod(0)
		wantErr(t, "Mod by 0", err, api.ErrDivZero)
		if got != 0 {
			t.Errorf("Mod by 0 of %s: got %d beside an error", x.Print(), got)
		}
		for _, w := range words {
			got, err := x.Mod(w)
			wantErr(t, "Mod", err, api.OK)
			_, want := floored(toBig(x), new(big.Int).SetUint64(w))
			if got != want.Uint64() {
				t.Errorf("Mod of %s by %d: got %d, want %v", x.Print(), w, got, want)
			}
			_, left, _ := x.DivMod(bigint.From(false, nat.Nat{w}))
			same(t, "what DivMod leaves", left, new(big.Int).SetUint64(got))
		}
	})
}
