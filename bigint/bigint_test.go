package bigint_test

import (
	"math"
	"math/big"
	"testing"

	"vinculum/api"
	"vinculum/bigint"
	"vinculum/nat"
)

// source is numbers that look like any others, the same ones in every run.
type source uint64

func (s *source) word() uint64 {
	*s += 0x9e3779b97f4a7c15
	w := uint64(*s)
	w = (w ^ w>>30) * 0xbf58476d1ce4e5b9
	w = (w ^ w>>27) * 0x94d049bb133111eb
	return w ^ w>>31
}

func (s *source) below(n int) int { return int(s.word() % uint64(n)) }

// edgeWord is mostly a word at which carries go wrong.
func (s *source) edgeWord() uint64 {
	edges := []uint64{0, 0, 1, 2, 3, 1<<63 - 1, 1 << 63, math.MaxUint64 - 1, math.MaxUint64}
	if i := s.below(len(edges) + 4); i < len(edges) {
		return edges[i]
	}
	return s.word()
}

// words are so many; those at their end may be 0.
func (s *source) words(n int) nat.Nat {
	x := make(nat.Nat, n)
	for i := range x {
		x[i] = s.edgeWord()
	}
	return x
}

// number has up to so many words, and either sign.
func (s *source) number(words int) bigint.Int {
	return bigint.From(s.below(2) == 0, s.words(words))
}

func wordsToBig(x nat.Nat) *big.Int {
	z := new(big.Int)
	for i := len(x) - 1; i >= 0; i-- {
		z.Lsh(z, 64)
		z.Or(z, new(big.Int).SetUint64(x[i]))
	}
	return z
}

func toBig(x bigint.Int) *big.Int {
	z := wordsToBig(x.Nat())
	if x.Sign() < 0 {
		z.Neg(z)
	}
	return z
}

// same fails, if got is not the number want, with all that tells a number.
func same(t *testing.T, what string, got bigint.Int, want *big.Int) {
	t.Helper()
	if toBig(got).Cmp(want) != 0 {
		t.Errorf("%s: got %v, want %v", what, toBig(got), want)
	}
	if got.Sign() != want.Sign() {
		t.Errorf("%s: got the sign %d, want %d", what, got.Sign(), want.Sign())
	}
	if n := got.Nat(); len(n) > 0 && n[len(n)-1] == 0 {
		t.Errorf("%s: a word 0 at the end of %v", what, n)
	}
}

func wantErr(t *testing.T, what string, got, want api.Errno) {
	t.Helper()
	if got != want {
		t.Errorf("%s: got %v, want %v", what, got, want)
	}
}

// wantNone fails, if beside an error a number is answered.
func wantNone(t *testing.T, what string, got bigint.Int) {
	t.Helper()
	if got.Sign() != 0 || len(got.Nat()) != 0 {
		t.Errorf("%s: got %s beside an error", what, got.Print())
	}
}

// pairs calls f with many pairs of numbers: all of those about 0 and about the
// ends of the ints, and others of up to 8 words.
func pairs(f func(x, y bigint.Int)) {
	ints := []int{0, 1, -1, 2, -2, 3, -3, 7, -7, 10, -10, math.MaxInt, -math.MaxInt, math.MinInt}
	for _, n := range ints {
		for _, m := range ints {
			f(bigint.Of(n), bigint.Of(m))
		}
	}
	s := source(1)
	for n := range 9 {
		for m := range 9 {
			for range 15 {
				f(s.number(n), s.number(m))
			}
		}
	}
}

func TestZeroValue(t *testing.T) { // P2.1
	var x bigint.Int
	same(t, "the zero Int", x, new(big.Int))
	if x.Print() != "0" || x.Bits() != 0 || x.Cmp(bigint.Of(0)) != 0 {
		t.Errorf("the zero Int: %s of %d bits", x.Print(), x.Bits())
	}
	if n, is := x.Small(); n != 0 || !is {
		t.Errorf("the zero Int: Small is %d, %t", n, is)
	}
	same(t, "0 and 5", x.Add(bigint.Of(5)), big.NewInt(5))
	same(t, "0 less 5", x.Sub(bigint.Of(5)), big.NewInt(-5))
	same(t, "0 times 5", x.Mul(bigint.Of(5)), new(big.Int))
	same(t, "0 less 0", x.Neg(), new(big.Int))
}

func TestOf(t *testing.T) { // P2.1
	ints := []int{0, 1, -1, 42, -42, 1 << 32, -1 << 32, math.MaxInt - 1, math.MaxInt, -math.MaxInt, math.MinInt}
	for _, n := range ints {
		same(t, "Of", bigint.Of(n), big.NewInt(int64(n)))
	}
}

func TestFrom(t *testing.T) { // P2.1
	cases := []struct {
		x    nat.Nat
		want string
	}{
		{nil, "0"}, {nat.Nat{}, "0"}, {nat.Nat{0}, "0"}, {nat.Nat{0, 0, 0}, "0"},
		{nat.Nat{1}, "1"}, {nat.Nat{5, 0, 0}, "5"}, {nat.Nat{0, 1}, "18446744073709551616"},
		{nat.Nat{0, 1, 0}, "18446744073709551616"}, {nat.Nat{1 << 63}, "9223372036854775808"},
	}
	for _, c := range cases {
		want, _ := new(big.Int).SetString(c.want, 10)
		same(t, "From", bigint.From(false, c.x), want)
		same(t, "From below 0", bigint.From(true, c.x), new(big.Int).Neg(want))
	}
	s := source(2)
	for n := range 20 {
		x := s.words(n)
		same(t, "From", bigint.From(false, x), wordsToBig(x))
		same(t, "From below 0", bigint.From(true, x), new(big.Int).Neg(wordsToBig(x)))
	}
}

func TestNat(t *testing.T) { // P2.1
	s := source(3)
	for n := range 20 {
		x := s.words(n)
		want := wordsToBig(x)
		for _, neg := range []bool{false, true} {
			got := bigint.From(neg, x).Nat()
			if wordsToBig(got).Cmp(want) != 0 {
				t.Errorf("Nat of %t, %v: got %v", neg, x, got)
			}
			if len(got) > 0 && got[len(got)-1] == 0 {
				t.Errorf("Nat of %t, %v: a word 0 at the end of %v", neg, x, got)
			}
		}
	}
}

func TestSign(t *testing.T) { // P2.1
	cases := []struct {
		x    bigint.Int
		want int
	}{
		{bigint.Of(0), 0}, {bigint.Of(1), 1}, {bigint.Of(-1), -1},
		{bigint.Of(math.MaxInt), 1}, {bigint.Of(math.MinInt), -1},
		{bigint.From(true, nil), 0}, {bigint.From(true, nat.Nat{0, 0}), 0},
		{bigint.From(true, nat.Nat{0, 1}), -1}, {bigint.From(false, nat.Nat{0, 1, 0}), 1},
		{bigint.Of(5).Sub(bigint.Of(5)), 0}, {bigint.Of(-5).Mul(bigint.Of(0)), 0},
		{bigint.Of(0).Neg(), 0},
	}
	for i, c := range cases {
		if got := c.x.Sign(); got != c.want {
			t.Errorf("%d: Sign of %s: got %d, want %d", i, c.x.Print(), got, c.want)
		}
	}
}

func TestCmp(t *testing.T) { // P2.1
	cases := []struct{ x, y, want int }{
		{0, 0, 0}, {5, 5, 0}, {-5, -5, 0}, {0, 1, -1}, {-1, 0, -1}, {-5, 5, -1}, {-7, -5, -1}, {5, 7, -1},
		{math.MinInt, math.MaxInt, -1}, {math.MinInt, 0, -1}, {-9, 3, -1}, {-3, 9, -1},
	}
	for _, c := range cases {
		x, y := bigint.Of(c.x), bigint.Of(c.y)
		if got := x.Cmp(y); got != c.want {
			t.Errorf("Cmp of %d and %d: got %d, want %d", c.x, c.y, got, c.want)
		}
		if got := y.Cmp(x); got != -c.want {
			t.Errorf("Cmp of %d and %d: got %d, want %d", c.y, c.x, got, -c.want)
		}
	}
	pairs(func(x, y bigint.Int) {
		if got, want := x.Cmp(y), toBig(x).Cmp(toBig(y)); got != want {
			t.Errorf("Cmp of %s and %s: got %d, want %d", x.Print(), y.Print(), got, want)
		}
		if got := x.Cmp(x); got != 0 {
			t.Errorf("Cmp of %s and itself: got %d", x.Print(), got)
		}
	})
}

func TestNeg(t *testing.T) { // P2.1
	pairs(func(x, _ bigint.Int) {
		same(t, "Neg", x.Neg(), new(big.Int).Neg(toBig(x)))
		same(t, "Neg of Neg", x.Neg().Neg(), toBig(x))
	})
}

func TestAddAndSub(t *testing.T) { // P2.1
	pairs(func(x, y bigint.Int) {
		same(t, "Add", x.Add(y), new(big.Int).Add(toBig(x), toBig(y)))
		same(t, "Sub", x.Sub(y), new(big.Int).Sub(toBig(x), toBig(y)))
		same(t, "Sub of itself", x.Sub(x), new(big.Int))
		same(t, "Add of its other", x.Add(x.Neg()), new(big.Int))
	})
}

func TestMul(t *testing.T) { // P2.1
	pairs(func(x, y bigint.Int) {
		same(t, "Mul", x.Mul(y), new(big.Int).Mul(toBig(x), toBig(y)))
	})
}

func TestMulOfLongNumbers(t *testing.T) { // P2.1
	s := source(4)
	for _, n := range []int{39, 40, 41, 80, 81, 82, 200, 700} {
		for _, m := range []int{1, 39, 40, 41, 100, 700} {
			x, y := s.number(n), s.number(m)
			same(t, "Mul", x.Mul(y), new(big.Int).Mul(toBig(x), toBig(y)))
		}
	}
}

func TestBits(t *testing.T) { // P2.3
	cases := []struct{ x, want int }{
		{0, 0}, {1, 1}, {-1, 1}, {2, 2}, {-2, 2}, {255, 8}, {-255, 8}, {256, 9}, {-256, 9},
		{math.MaxInt, 63}, {math.MinInt, 64},
	}
	for _, c := range cases {
		if got := bigint.Of(c.x).Bits(); got != c.want {
			t.Errorf("Bits of %d: got %d, want %d", c.x, got, c.want)
		}
	}
	pairs(func(x, _ bigint.Int) {
		if got, want := x.Bits(), toBig(x).BitLen(); got != want {
			t.Errorf("Bits of %s: got %d, want %d", x.Print(), got, want)
		}
	})
}

func TestSmall(t *testing.T) { // P2.3
	cases := []struct {
		x    string
		want int
		is   bool
	}{
		{"0", 0, true}, {"1", 1, true}, {"-1", -1, true},
		{"9223372036854775806", math.MaxInt - 1, true}, {"9223372036854775807", math.MaxInt, true},
		{"-9223372036854775807", -math.MaxInt, true}, {"-9223372036854775808", math.MinInt, true},
		{"9223372036854775808", 0, false}, {"-9223372036854775809", 0, false},
		{"9223372036854775809", 0, false}, {"18446744073709551615", 0, false},
		{"-18446744073709551615", 0, false}, {"18446744073709551616", 0, false},
		{"-18446744073709551616", 0, false}, {"18446744073709551617", 0, false},
		{"-340282366920938463463374607431768211457", 0, false},
	}
	for _, c := range cases {
		x, err := bigint.Parse(c.x)
		wantErr(t, c.x, err, api.OK)
		if got, is := x.Small(); got != c.want || is != c.is {
			t.Errorf("Small of %s: got %d, %t, want %d, %t", c.x, got, is, c.want, c.is)
		}
	}
	pairs(func(x, _ bigint.Int) {
		got, is := x.Small()
		want := toBig(x)
		if is != want.IsInt64() || is && int64(got) != want.Int64() || !is && got != 0 {
			t.Errorf("Small of %s: got %d, %t", x.Print(), got, is)
		}
	})
}
