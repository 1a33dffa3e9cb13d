package nat_test

import (
	"math"
	"math/big"
	"testing"

	"vinculum/api"
	"vinculum/nat"
)

// divides fails, if DivMod is not the quotient and what is left.
func divides(t *testing.T, x, y nat.Nat) {
	t.Helper()
	q, left, err := nat.DivMod(x, y)
	if toBig(y).Sign() == 0 {
		wantErr(t, "DivMod by 0", err, api.ErrDivZero)
		wantNone(t, "DivMod by 0", q)
		wantNone(t, "DivMod by 0", left)
		return
	}
	wantErr(t, "DivMod", err, api.OK)
	wantQ, wantLeft := new(big.Int).QuoRem(toBig(x), toBig(y), new(big.Int))
	same(t, "DivMod's quotient", q, wantQ)
	same(t, "what DivMod leaves", left, wantLeft)
}

func TestDivModExamples(t *testing.T) { // P1.2
	q, left, err := nat.DivMod(nat.Nat{100}, nat.Nat{7})
	if nat.Print(q) != "14" || nat.Print(left) != "2" || err != api.OK {
		t.Errorf("100 by 7: got %v, %v, %v", q, left, err)
	}
	q, left, err = nat.DivMod(nat.Nat{5}, nat.Nat{100})
	if len(q) != 0 || nat.Print(left) != "5" || err != api.OK {
		t.Errorf("5 by 100: got %v, %v, %v", q, left, err)
	}
}

func TestDivModByZero(t *testing.T) { // P1.2
	for _, x := range []nat.Nat{nil, {0}, {5}, {5, 6, 7}} {
		for _, y := range []nat.Nat{nil, {}, {0}, {0, 0, 0}} {
			divides(t, x, y)
		}
	}
}

func TestDivMod(t *testing.T) { // P1.2
	pairs(func(x, y nat.Nat) {
		divides(t, x, y)
		divides(t, x, x)
		divides(t, nat.Mul(x, y), y)
		divides(t, nat.Add(nat.Mul(x, y), nat.Nat{1}), y)
	})
}

// A digit's guess is one too great at these, or as great as it may be.
func TestDivModGuesses(t *testing.T) { // P1.2
	const top, most = 1 << 63, math.MaxUint64
	cases := []struct{ x, y nat.Nat }{
		{nat.Nat{3, 0, top}, nat.Nat{1, 0, 1 << 61}},
		{nat.Nat{0, 0, top, top - 1}, nat.Nat{1, 0, top}},
		{nat.Nat{0, most - 1, 0, top}, nat.Nat{most, 0, top}},
		{nat.Nat{0, most - 1, top}, nat.Nat{most, top}},
		{nat.Nat{0, 0, 0, top}, nat.Nat{most, most, top}},
		{nat.Nat{0, 0, top}, nat.Nat{most, top}},
		{nat.Nat{0, most - 1, most}, nat.Nat{most, most}},
		{nat.Nat{most, most - 1, most}, nat.Nat{most, most}},
		{nat.Nat{most, most, most, most}, nat.Nat{0, 1}},
		{nat.Nat{0, 0, 0, 1}, nat.Nat{1, 1}},
		{nat.Nat{0, 0, 1}, nat.Nat{most, most, 0}},
	}
	for _, c := range cases {
		divides(t, c.x, c.y)
	}
}

func TestDivModOfEdgeWords(t *testing.T) { // P1.2
	s := source(6)
	for range 20000 {
		divides(t, s.number(4), s.number(2))
		divides(t, s.number(5), s.number(3))
	}
}

func TestDivModOfLongNumbers(t *testing.T) { // P1.2
	s := source(7)
	for _, c := range []struct{ n, m int }{{300, 1}, {300, 2}, {300, 150}, {300, 299}, {300, 300}, {150, 300}} {
		divides(t, s.number(c.n), s.number(c.m))
	}
}

func TestDivModFollows(t *testing.T) { // P1.5
	pairs(func(x, y nat.Nat) {
		q, left, err := nat.DivMod(x, y)
		if err != api.OK {
			return
		}
		if nat.Cmp(left, y) >= 0 {
			t.Errorf("%v by %v leaves %v", x, y, left)
		}
		if nat.Cmp(nat.Add(nat.Mul(q, y), left), x) != 0 {
			t.Errorf("%v is not %v times %v, and %v", x, y, q, left)
		}
	})
}

func TestDivWord(t *testing.T) { // P1.2
	for _, x := range []nat.Nat{nil, {0, 0}, {5, 1}} {
		q, left, err := nat.DivWord(x, 0)
		wantErr(t, "DivWord by 0", err, api.ErrDivZero)
		wantNone(t, "DivWord by 0", q)
		if left != 0 {
			t.Errorf("DivWord by 0: left %d", left)
		}
	}
	words := []uint64{1, 2, 3, 10, 1 << 32, 1<<63 - 1, 1 << 63, math.MaxUint64}
	pairs(func(x, _ nat.Nat) {
		for _, w := range words {
			q, left, err := nat.DivWord(x, w)
			wantErr(t, "DivWord", err, api.OK)
			divisor := new(big.Int).SetUint64(w)
			wantQ, wantLeft := new(big.Int).QuoRem(toBig(x), divisor, new(big.Int))
			same(t, "DivWord's quotient", q, wantQ)
			if left != wantLeft.Uint64() {
				t.Errorf("%v by %d leaves %d, not %v", x, w, left, wantLeft)
			}
		}
	})
}

// common fails, if Gcd is not the greatest common divisor, whichever comes first.
func common(t *testing.T, x, y nat.Nat) {
	t.Helper()
	want := new(big.Int).GCD(nil, nil, toBig(x), toBig(y))
	same(t, "Gcd", nat.Gcd(x, y), want)
	same(t, "Gcd", nat.Gcd(y, x), want)
}

func TestGcdExamples(t *testing.T) { // P1.2
	cases := []struct {
		x, y nat.Nat
		want string
	}{
		{nil, nil, "0"},
		{nat.Nat{0, 0}, nat.Nat{0}, "0"},
		{nil, nat.Nat{12}, "12"},
		{nat.Nat{12}, nat.Nat{0}, "12"},
		{nat.Nat{5, 6, 0}, nil, "110680464442257309701"},
		{nat.Nat{18}, nat.Nat{12}, "6"},
		{nat.Nat{18, 0}, nat.Nat{12, 0, 0}, "6"},
		{nat.Nat{0, 1}, nat.Nat{1 << 63}, "9223372036854775808"},
		{full(2), full(1), "18446744073709551615"},
		{nat.Nat{17}, nat.Nat{0, 0, 1}, "1"},
	}
	for _, c := range cases {
		if got := nat.Print(nat.Gcd(c.x, c.y)); got != c.want {
			t.Errorf("Gcd(%v, %v): got %s, want %s", c.x, c.y, got, c.want)
		}
		if got := nat.Print(nat.Gcd(c.y, c.x)); got != c.want {
			t.Errorf("Gcd(%v, %v): got %s, want %s", c.y, c.x, got, c.want)
		}
	}
}

func TestGcd(t *testing.T) { // P1.2
	s := source(8)
	pairs(func(x, y nat.Nat) {
		common(t, x, y)
		common(t, x, x)
		z := s.number(1 + s.below(4))
		common(t, nat.Mul(x, z), nat.Mul(y, z))
		common(t, x, nat.Mul(x, z))
	})
}

func TestGcdOfPlainWords(t *testing.T) { // P1.2
	s := source(9)
	plain := func(words int) nat.Nat {
		x := make(nat.Nat, words)
		for i := range x {
			x[i] = s.word()
		}
		return x
	}
	for n := range 40 {
		x, y, z := plain(n), plain(n+s.below(3)), plain(s.below(n+1))
		common(t, x, y)
		common(t, nat.Mul(x, z), nat.Mul(y, z))
	}
}

// Fibonacci's numbers have the most of Euclid's steps, each with the quotient 1.
func TestGcdOfFibonacci(t *testing.T) { // P1.2
	x, y := nat.Nat{1}, nat.Nat{1}
	for len(x) < 20 {
		x, y = nat.Add(x, y), x
		common(t, x, y)
	}
}

func TestGcdOfNearNumbers(t *testing.T) { // P1.2
	s := source(10)
	for n := 1; n < 12; n++ {
		x := nat.Add(s.number(n), full(n))
		for _, w := range []uint64{1, 2, 3, math.MaxUint64} {
			common(t, x, nat.Add(x, nat.Nat{w}))
			common(t, x, nat.Add(nat.Mul(x, nat.Nat{w}), nat.Nat{w}))
		}
	}
}
