package nat_test

import (
	"math"
	"math/big"
	"slices"
	"testing"

	"vinculum/api"
	"vinculum/nat"
)

// source is numbers that look like any others, the same ones in every run.
type source uint64

func (s *source) word() uint64 {
	*s += 0x9e3779b97f4a7c15
	w := uint64(*s)
	w = (w ^ w>>30) * 0xbf58476d1ce4e5b9
	w = (w ^ w>>27) * 0x94d049bb133111eb
	return w ^ w>>31
}

func (s *source) below(n int) int { return int(s.word() % uint64(n)) }

// edgeWord is mostly a word at which carries and guesses go wrong.
func (s *source) edgeWord() uint64 {
	edges := []uint64{0, 0, 1, 2, 1 << 32, 1<<63 - 1, 1 << 63, math.MaxUint64 - 1, math.MaxUint64, math.MaxUint64}
	if i := s.below(len(edges) + 4); i < len(edges) {
		return edges[i]
	}
	return s.word()
}

// number has so many words; those at its end may be 0.
func (s *source) number(words int) nat.Nat {
	x := make(nat.Nat, words)
	for i := range x {
		x[i] = s.edgeWord()
	}
	return x
}

func toBig(x nat.Nat) *big.Int {
	z := new(big.Int)
	for i := len(x) - 1; i >= 0; i-- {
		z.Lsh(z, 64)
		z.Or(z, new(big.Int).SetUint64(x[i]))
	}
	return z
}

// same fails, if got is not the number want, or has words 0 at its end.
func same(t *testing.T, what string, got nat.Nat, want *big.Int) {
	t.Helper()
	if toBig(got).Cmp(want) != 0 {
		t.Errorf("%s: got %v, want %v", what, toBig(got), want)
	}
	if len(got) > 0 && got[len(got)-1] == 0 {
		t.Errorf("%s: a word 0 at the end of %v", what, got)
	}
}

func wantErr(t *testing.T, what string, got, want api.Errno) {
	t.Helper()
	if got != want {
		t.Errorf("%s: got %v, want %v", what, got, want)
	}
}

// wantNone fails, if beside an error a number is answered.
func wantNone(t *testing.T, what string, got nat.Nat) {
	t.Helper()
	if len(got) != 0 {
		t.Errorf("%s: got %v beside an error", what, got)
	}
}

// pairs calls f with many pairs of numbers, of all lengths up to 9 words.
func pairs(f func(x, y nat.Nat)) {
	s := source(1)
	for n := range 10 {
		for m := range 10 {
			for range 20 {
				f(s.number(n), s.number(m))
			}
		}
	}
}

func TestNorm(t *testing.T) { // P1.1
	cases := []struct{ x, want nat.Nat }{
		{nil, nil},
		{nat.Nat{}, nil},
		{nat.Nat{0}, nil},
		{nat.Nat{0, 0, 0}, nil},
		{nat.Nat{5}, nat.Nat{5}},
		{nat.Nat{3, 0, 0}, nat.Nat{3}},
		{nat.Nat{0, 7}, nat.Nat{0, 7}},
		{nat.Nat{0, 0, 7, 0}, nat.Nat{0, 0, 7}},
		{nat.Nat{1, 0, 2}, nat.Nat{1, 0, 2}},
	}
	for _, c := range cases {
		if got := nat.Norm(c.x); !slices.Equal(got, c.want) {
			t.Errorf("Norm(%v): got %v, want %v", c.x, got, c.want)
		}
	}
	pairs(func(x, _ nat.Nat) { same(t, "Norm", nat.Norm(x), toBig(x)) })
}

func TestCmp(t *testing.T) { // P1.1
	cases := []struct {
		x, y nat.Nat
		want int
	}{
		{nil, nil, 0},
		{nil, nat.Nat{0, 0}, 0},
		{nat.Nat{1, 0}, nat.Nat{1}, 0},
		{nil, nat.Nat{1}, -1},
		{nat.Nat{1, 2}, nat.Nat{2, 1}, 1},
		{nat.Nat{1, 2}, nat.Nat{2, 2}, -1},
		{nat.Nat{math.MaxUint64}, nat.Nat{0, 1}, -1},
		{nat.Nat{math.MaxUint64, 0, 0}, nat.Nat{0, 1}, -1},
		{nat.Nat{1 << 63}, nat.Nat{1}, 1},
	}
	for _, c := range cases {
		if got := nat.Cmp(c.x, c.y); got != c.want {
			t.Errorf("Cmp(%v, %v): got %d, want %d", c.x, c.y, got, c.want)
		}
		if got := nat.Cmp(c.y, c.x); got != -c.want {
			t.Errorf("Cmp(%v, %v): got %d, want %d", c.y, c.x, got, -c.want)
		}
	}
	pairs(func(x, y nat.Nat) {
		if got, want := nat.Cmp(x, y), toBig(x).Cmp(toBig(y)); got != want {
			t.Errorf("Cmp(%v, %v): got %d, want %d", x, y, got, want)
		}
	})
}

func TestAdd(t *testing.T) { // P1.1
	full := nat.Nat{math.MaxUint64, math.MaxUint64, math.MaxUint64}
	if got, want := nat.Add(full, nat.Nat{1}), (nat.Nat{0, 0, 0, 1}); !slices.Equal(got, want) {
		t.Errorf("a carry over all words: got %v, want %v", got, want)
	}
	if got := nat.Add(nil, nat.Nat{0, 0}); len(got) != 0 {
		t.Errorf("0 and 0: got %v", got)
	}
	pairs(func(x, y nat.Nat) {
		same(t, "Add", nat.Add(x, y), new(big.Int).Add(toBig(x), toBig(y)))
	})
}

func TestSub(t *testing.T) { // P1.1
	got, err := nat.Sub(nat.Nat{0, 0, 0, 1}, nat.Nat{1, 0})
	wantErr(t, "a borrow over all words", err, api.OK)
	if want := (nat.Nat{math.MaxUint64, math.MaxUint64, math.MaxUint64}); !slices.Equal(got, want) {
		t.Errorf("a borrow over all words: got %v, want %v", got, want)
	}
	pairs(func(x, y nat.Nat) {
		got, err := nat.Sub(x, y)
		want := new(big.Int).Sub(toBig(x), toBig(y))
		if want.Sign() < 0 {
			wantErr(t, "Sub of a greater one", err, api.ErrArg)
			wantNone(t, "Sub of a greater one", got)
			return
		}
		wantErr(t, "Sub", err, api.OK)
		same(t, "Sub", got, want)
	})
}

func TestSumsDoNotHangOnOrder(t *testing.T) { // P1.5
	s := source(2)
	pairs(func(x, y nat.Nat) {
		z := s.number(s.below(9))
		if nat.Cmp(nat.Add(x, y), nat.Add(y, x)) != 0 {
			t.Errorf("%v and %v, and the other way about", x, y)
		}
		if nat.Cmp(nat.Add(nat.Add(x, y), z), nat.Add(x, nat.Add(y, z))) != 0 {
			t.Errorf("%v and %v and %v", x, y, z)
		}
	})
}

func TestWhatWasAddedIsTakenAway(t *testing.T) { // P1.5
	pairs(func(x, y nat.Nat) {
		got, err := nat.Sub(nat.Add(x, y), y)
		wantErr(t, "Sub of Add", err, api.OK)
		same(t, "Sub of Add", got, toBig(x))
	})
}
