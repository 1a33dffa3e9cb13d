package word_test

import (
	"math"
	"math/big"
	"testing"

	"vinculum/api"
	"vinculum/word"
)

// source is numbers that look like any others, the same ones in every run.
type source uint64

func (s *source) word() uint64 {
	*s += 0x9e3779b97f4a7c15
	w := uint64(*s)
	w = (w ^ w>>30) * 0xbf58476d1ce4e5b9
	w = (w ^ w>>27) * 0x94d049bb133111eb
	return w ^ w>>31
}

// highestPrime is the highest one below 2 to the 63rd.
const highestPrime = 1<<63 - 25

// moduli are words of all kinds: small ones, primes and others, odd ones and even
// ones, the highest that may be.
func moduli() []uint64 {
	list := []uint64{
		998244353, 1<<31 - 1, 1 << 32, 1<<32 - 1, 1<<32 + 1, 1<<61 - 1, 1 << 62, 1<<62 - 1, 1<<62 + 1,
		highestPrime, 1<<63 - 1, 1<<63 - 2, 1<<63 - 3, 3 * 5 * 7 * 11 * 13, 3 * (1 << 40), 3037000499 * 3037000493,
	}
	for m := uint64(2); m <= 40; m++ {
		list = append(list, m)
	}
	s := source(1)
	for n := uint(1); n < 60; n += 5 {
		list = append(list, s.word()>>n|2)
	}
	return list
}

// numbers are words at the edges of m and of words, and others.
func numbers(m uint64) []uint64 {
	list := []uint64{
		0, 1, 2, 3, m / 2, m/2 + 1, m - 2, m - 1, m, m + 1, 2*m - 1, 2 * m, 2*m + 1,
		1 << 32, 1<<63 - 1, 1 << 63, math.MaxUint64 - 1, math.MaxUint64, math.MaxUint64 / m * m,
	}
	s := source(m)
	return append(list, s.word(), s.word()%m, s.word()>>32)
}

func fieldOf(t *testing.T, m uint64) *word.Field {
	t.Helper()
	f, err := word.New(m)
	if err != api.OK || f == nil {
		t.Fatalf("New(%d): error %d", m, int(err))
	}
	return f
}

// eachPair goes through all moduli, and pairs of numbers of each.
func eachPair(t *testing.T, f func(field *word.Field, m, x, y uint64)) {
	t.Helper()
	for _, m := range moduli() {
		field := fieldOf(t, m)
		for _, x := range numbers(m) {
			for _, y := range numbers(m) {
				f(field, m, x, y)
			}
		}
	}
}

func great(x uint64) *big.Int { return new(big.Int).SetUint64(x) }

// left is what a whole number leaves, from 0 to m less 1.
func left(x *big.Int, m uint64) uint64 { return new(big.Int).Mod(x, great(m)).Uint64() }

func wantErr(t *testing.T, what string, got, want api.Errno) {
	t.Helper()
	if got != want {
		t.Errorf("%s: got the error %d, want %d", what, int(got), int(want))
	}
}

func TestNew(t *testing.T) { // P3.1
	cases := []struct {
		m    uint64
		want api.Errno
	}{
		{0, api.ErrArg}, {1, api.ErrArg}, {2, api.OK}, {3, api.OK}, {4, api.OK},
		{1<<63 - 1, api.OK}, {1<<63 - 2, api.OK}, {1 << 63, api.ErrArg}, {1<<63 + 1, api.ErrArg},
		{math.MaxUint64, api.ErrArg},
	}
	for _, c := range cases {
		f, err := word.New(c.m)
		if err != c.want {
			t.Errorf("New(%d): got the error %d, want %d", c.m, int(err), int(c.want))
		}
		if (f == nil) != (c.want != api.OK) {
			t.Errorf("New(%d): got the field %v", c.m, f)
		}
		if err == api.OK && f.M() != c.m {
			t.Errorf("M of New(%d): %d", c.m, f.M())
		}
	}
}

func TestSmallFields(t *testing.T) { // P3.1
	for m := uint64(2); m < 20; m++ {
		f := fieldOf(t, m)
		for x := range 2*m + 2 {
			if got := f.Of(x); got != x%m {
				t.Errorf("modulo %d: Of(%d) is %d", m, x, got)
			}
			for y := range 2*m + 2 {
				if got := f.Add(x, y); got != (x+y)%m {
					t.Errorf("modulo %d: Add(%d, %d) is %d", m, x, y, got)
				}
				if got := f.Sub(x, y); got != (x+4*m-y)%m {
					t.Errorf("modulo %d: Sub(%d, %d) is %d", m, x, y, got)
				}
				if got := f.Mul(x, y); got != x*y%m {
					t.Errorf("modulo %d: Mul(%d, %d) is %d", m, x, y, got)
				}
			}
		}
	}
}

func TestSumsAndProducts(t *testing.T) { // P3.1
	eachPair(t, func(f *word.Field, m, x, y uint64) {
		if got, want := f.Of(x), x%m; got != want {
			t.Errorf("modulo %d: Of(%d) is %d, not %d", m, x, got, want)
		}
		if got, want := f.Add(x, y), left(new(big.Int).Add(great(x), great(y)), m); got != want {
			t.Errorf("modulo %d: Add(%d, %d) is %d, not %d", m, x, y, got, want)
		}
		if got, want := f.Sub(x, y), left(new(big.Int).Sub(great(x), great(y)), m); got != want {
			t.Errorf("modulo %d: Sub(%d, %d) is %d, not %d", m, x, y, got, want)
		}
		if got, want := f.Mul(x, y), left(new(big.Int).Mul(great(x), great(y)), m); got != want {
			t.Errorf("modulo %d: Mul(%d, %d) is %d, not %d", m, x, y, got, want)
		}
		if f.M() != m {
			t.Errorf("M is %d, not %d", f.M(), m)
		}
	})
}

func TestPowersByProducts(t *testing.T) { // P3.1
	for m := uint64(2); m < 12; m++ {
		f := fieldOf(t, m)
		for x := range 2 * m {
			want := uint64(1)
			for n := range uint64(40) {
				if got := f.Pow(x, n); got != want {
					t.Errorf("modulo %d: Pow(%d, %d) is %d, not %d", m, x, n, got, want)
				}
				want = want * x % m
			}
		}
	}
}

func TestPowers(t *testing.T) { // P3.1
	// The exponent is no number modulo m: it is taken as it is.
	eachPair(t, func(f *word.Field, m, x, n uint64) {
		want := new(big.Int).Exp(great(x), great(n), great(m)).Uint64()
		if got := f.Pow(x, n); got != want {
			t.Errorf("modulo %d: Pow(%d, %d) is %d, not %d", m, x, n, got, want)
		}
	})
}

func TestPowersOfNought(t *testing.T) { // P3.1
	for _, m := range moduli() {
		f := fieldOf(t, m)
		for _, x := range []uint64{0, m} {
			if got := f.Pow(x, 0); got != 1 {
				t.Errorf("modulo %d: Pow(%d, 0) is %d", m, x, got)
			}
			if got := f.Pow(x, math.MaxUint64); got != 0 {
				t.Errorf("modulo %d: Pow(%d, the highest word) is %d", m, x, got)
			}
		}
	}
}

func TestExamples(t *testing.T) { // the chapter's examples
	seven, eight := fieldOf(t, 7), fieldOf(t, 8)
	if got := seven.Mul(5, 6); got != 2 {
		t.Errorf("modulo 7: Mul(5, 6) is %d", got)
	}
	if got, err := seven.Inv(3); got != 5 || err != api.OK {
		t.Errorf("modulo 7: Inv(3) is %d, error %d", got, int(err))
	}
	_, err := seven.Inv(7)
	wantErr(t, "modulo 7: Inv(7)", err, api.ErrDivZero)
	_, err = eight.Inv(6)
	wantErr(t, "modulo 8: Inv(6)", err, api.ErrInexact)
	_, err = eight.In(1)
	wantErr(t, "modulo 8: In(1)", err, api.ErrArg)
}
