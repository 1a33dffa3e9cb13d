package crt_test

import (
	"math"
	"math/big"
	"slices"
	"testing"

	"vinculum/api"
	"vinculum/bigint"
	"vinculum/crt"
	"vinculum/nat"
)

// source is numbers that look like any others, the same ones in every run.
type source uint64

func (s *source) word() uint64 {
	*s += 0x9e3779b97f4a7c15
	w := uint64(*s)
	w = (w ^ w>>30) * 0xbf58476d1ce4e5b9
	w = (w ^ w>>27) * 0x94d049bb133111eb
	return w ^ w>>31
}

func (s *source) below(n int) int { return int(s.word() % uint64(n)) }

// sized is a word of any number of bits.
func (s *source) sized() uint64 { return s.word() >> s.below(64) }

// divisor is a word that may be, of any number of bits.
func (s *source) divisor() uint64 { return max(2, s.word()>>(1+s.below(62))) }

// number has up to so many words, and either sign.
func (s *source) number(words int) bigint.Int {
	x := make(nat.Nat, words)
	for i := range x {
		x[i] = s.word()
	}
	return bigint.From(s.below(2) == 0, x)
}

// apart are up to so many words that may be, no two of which have a divisor in
// common.
func (s *source) apart(n int) []uint64 {
	var m []uint64
	product := big.NewInt(1)
	for range n {
		w := new(big.Int).SetUint64(s.divisor())
		if new(big.Int).GCD(nil, nil, product, w).Cmp(big.NewInt(1)) == 0 {
			m = append(m, w.Uint64())
			product.Mul(product, w)
		}
	}
	return m
}

// words are as many as m has, of any size.
func (s *source) words(m []uint64) []uint64 {
	l := make([]uint64, len(m))
	for i := range l {
		l[i] = s.sized()
	}
	return l
}

// wrongWords may not be.
func wrongWords() []uint64 {
	return []uint64{0, 1, 1 << 63, 1<<63 + 1, math.MaxUint64 - 1, math.MaxUint64}
}

// edgeWords may be, but only just.
func edgeWords() []uint64 { return []uint64{2, 3, 1<<63 - 2, 1<<63 - 1} }

func toBig(x bigint.Int) *big.Int {
	z := new(big.Int)
	words := x.Nat()
	for i := len(words) - 1; i >= 0; i-- {
		z.Lsh(z, 64)
		z.Or(z, new(big.Int).SetUint64(words[i]))
	}
	if x.Sign() < 0 {
		z.Neg(z)
	}
	return z
}

func product(m []uint64) *big.Int {
	all := big.NewInt(1)
	for _, w := range m {
		all.Mul(all, new(big.Int).SetUint64(w))
	}
	return all
}

func parsed(t *testing.T, s string) bigint.Int {
	t.Helper()
	x, err := bigint.Parse(s)
	if err != api.OK {
		t.Fatalf("Parse(%q): error %d", s, int(err))
	}
	return x
}

func wantErr(t *testing.T, what string, got, want api.Errno) {
	t.Helper()
	if got != want {
		t.Errorf("%s: got the error %d, want %d", what, int(got), int(want))
	}
}

func wantNumber(t *testing.T, what string, got bigint.Int, want string) {
	t.Helper()
	if got.Print() != want {
		t.Errorf("%s: got %s, want %s", what, got.Print(), want)
	}
}

func TestParts(t *testing.T) { // P5.1
	cases := []struct {
		x       string
		m, want []uint64
	}{
		{"17", []uint64{5, 7}, []uint64{2, 3}},
		{"-17", []uint64{5, 7, 2}, []uint64{3, 4, 1}},
		{"0", []uint64{2, 3, 1<<63 - 1}, []uint64{0, 0, 0}},
		{"35", []uint64{5, 7, 35, 36}, []uint64{0, 0, 0, 35}},
		{"-35", []uint64{5, 7, 35, 36}, []uint64{0, 0, 0, 1}},
		{"-1", []uint64{2, 3, 1<<63 - 1}, []uint64{1, 2, 1<<63 - 2}},
		{"12", []uint64{4, 6, 4, 9}, []uint64{0, 0, 0, 3}},
		{"18446744073709551616", []uint64{2, 3, 5, 1<<63 - 1}, []uint64{0, 1, 1, 2}},
		{"-18446744073709551616", []uint64{2, 3, 5, 1<<63 - 1}, []uint64{0, 2, 4, 1<<63 - 3}},
		{"5", nil, nil},
		{"5", []uint64{}, nil},
	}
	for _, c := range cases {
		got, err := crt.Parts(parsed(t, c.x), c.m)
		if !slices.Equal(got, c.want) || err != api.OK {
			t.Errorf("Parts(%s, %d): got %d, error %d, want %d", c.x, c.m, got, int(err), c.want)
		}
	}
}

func TestPartsOfManyNumbers(t *testing.T) { // P5.1
	s := source(1)
	for range 2000 {
		x := s.number(s.below(6))
		m := append(edgeWords(), s.divisor(), s.divisor())
		got, err := crt.Parts(x, m)
		if err != api.OK || len(got) != len(m) {
			t.Fatalf("Parts(%s, %d): got %d, error %d", x.Print(), m, got, int(err))
		}
		for i, w := range m {
			// Mod of the library's is from 0 on, as the document's is.
			want := new(big.Int).Mod(toBig(x), new(big.Int).SetUint64(w))
			if !want.IsUint64() || got[i] != want.Uint64() {
				t.Errorf("Parts(%s, %d): got %d at %d, want %v", x.Print(), m, got[i], i, want)
			}
		}
	}
}

func TestPartsTakesManyWords(t *testing.T) { // P5.1: there is no limit to them
	m := slices.Repeat([]uint64{3, 6, 1<<63 - 1}, 1000)
	got, err := crt.Parts(bigint.Of(-2), m)
	if want := slices.Repeat([]uint64{1, 4, 1<<63 - 3}, 1000); err != api.OK || !slices.Equal(got, want) {
		t.Errorf("Parts of 3000 words: got %d of them, error %d", len(got), int(err))
	}
}

func TestPartsOfWrongWords(t *testing.T) { // P5.1
	for _, w := range wrongWords() {
		for _, m := range [][]uint64{{w}, {w, 5}, {5, w}, {5, w, 7}, {5, 7, w}} {
			for _, x := range []int{0, 1, -1, math.MinInt} {
				got, err := crt.Parts(bigint.Of(x), m)
				if err != api.ErrArg || len(got) != 0 {
					t.Errorf("Parts(%d, %d): got %d, error %d", x, m, got, int(err))
				}
			}
		}
	}
	for _, w := range edgeWords() {
		if got, err := crt.Parts(bigint.Of(1), []uint64{w}); err != api.OK || !slices.Equal(got, []uint64{1}) {
			t.Errorf("Parts(1, %d): got %d, error %d", w, got, int(err))
		}
	}
}

func TestNear(t *testing.T) { // P5.3
	cases := []struct{ x, all, want string }{
		{"17", "35", "17"}, {"18", "35", "-17"}, {"-17", "35", "-17"}, {"-18", "35", "17"}, {"52", "35", "17"}, {"53", "35", "-17"},
		{"5", "10", "5"}, {"-5", "10", "5"}, {"6", "10", "-4"}, {"4", "10", "4"}, {"-4", "10", "-4"}, {"-6", "10", "4"}, {"15", "10", "5"}, {"-15", "10", "5"},
		{"0", "10", "0"}, {"10", "10", "0"}, {"-10", "10", "0"}, {"100", "10", "0"},
		{"0", "1", "0"}, {"7", "1", "0"}, {"-7", "1", "0"},
		{"0", "2", "0"}, {"1", "2", "1"}, {"-1", "2", "1"}, {"2", "2", "0"},
		{"1", "3", "1"}, {"2", "3", "-1"}, {"-1", "3", "-1"}, {"-2", "3", "1"},
		{"9223372036854775808", "18446744073709551616", "9223372036854775808"},
		{"9223372036854775809", "18446744073709551616", "-9223372036854775807"},
		{"-9223372036854775808", "18446744073709551616", "9223372036854775808"},
		{"-9223372036854775807", "18446744073709551616", "-9223372036854775807"},
		{"9223372036854775808", "18446744073709551617", "9223372036854775808"},
		{"9223372036854775809", "18446744073709551617", "-9223372036854775808"},
	}
	for _, c := range cases {
		got, err := crt.Near(parsed(t, c.x), parsed(t, c.all))
		wantErr(t, "Near("+c.x+", "+c.all+")", err, api.OK)
		wantNumber(t, "Near("+c.x+", "+c.all+")", got, c.want)
	}
}

func TestNearIsWhatItMustBe(t *testing.T) { // P5.3
	s := source(2)
	for range 3000 {
		x, all := s.number(s.below(5)), s.number(1+s.below(4))
		if all.Sign() < 0 {
			all = all.Neg()
		}
		if s.below(3) == 0 {
			all = bigint.Of(1 + s.below(9))
		}
		got, err := crt.Near(x, all)
		wantErr(t, "Near", err, api.OK)
		twice, bound := new(big.Int).Lsh(toBig(got), 1), toBig(all)
		if twice.Cmp(new(big.Int).Neg(bound)) <= 0 || twice.Cmp(bound) > 0 {
			t.Errorf("Near(%s, %s): got %s", x.Print(), all.Print(), got.Print())
		}
		if off := new(big.Int).Sub(toBig(x), toBig(got)); off.Mod(off, bound).Sign() != 0 {
			t.Errorf("Near(%s, %s): got %s, which leaves something else", x.Print(), all.Print(), got.Print())
		}
	}
}

func TestNearOfWrongNumbers(t *testing.T) { // P5.3
	for _, all := range []string{"0", "-1", "-5", "-35", "-18446744073709551616"} {
		for _, x := range []string{"0", "1", "-1", "17", "18446744073709551617"} {
			got, err := crt.Near(parsed(t, x), parsed(t, all))
			wantErr(t, "Near("+x+", "+all+")", err, api.ErrArg)
			wantNumber(t, "Near("+x+", "+all+")", got, "0")
		}
	}
	var none bigint.Int
	if _, err := crt.Near(none, none); err != api.ErrArg {
		t.Errorf("Near of zero values: error %d", int(err))
	}
}

func TestJoin(t *testing.T) { // P5.3
	cases := []struct {
		l, m []uint64
		want string
	}{
		{[]uint64{2, 3}, []uint64{5, 7}, "17"}, {[]uint64{3, 4}, []uint64{5, 7}, "-17"},
		{[]uint64{12, 18}, []uint64{5, 7}, "-3"}, {nil, nil, "0"}, {[]uint64{1}, []uint64{2}, "1"},
		{[]uint64{1, 2}, []uint64{2, 5}, "-3"}, {[]uint64{1, 0}, []uint64{2, 5}, "5"},
		{[]uint64{1<<63 - 2, 1}, []uint64{1<<63 - 1, 2}, "-1"},
		{[]uint64{math.MaxUint64}, []uint64{1<<63 - 1}, "1"},
		{[]uint64{math.MaxUint64 - 2}, []uint64{1<<63 - 1}, "-1"},
	}
	for _, c := range cases {
		got, err := crt.Join(c.l, c.m)
		if got.Print() != c.want || err != api.OK {
			t.Errorf("Join(%d, %d): got %s, error %d, want %s", c.l, c.m, got.Print(), int(err), c.want)
		}
	}
}

func TestJoinIsNearOfLift(t *testing.T) { // P5.3
	s := source(3)
	for range 1500 {
		m := s.apart(8)
		l := s.words(m)
		x, all, err := crt.Lift(l, m)
		wantErr(t, "Lift", err, api.OK)
		want, err := crt.Near(x, all)
		wantErr(t, "Near", err, api.OK)
		got, err := crt.Join(l, m)
		wantErr(t, "Join", err, api.OK)
		if got.Cmp(want) != 0 {
			t.Errorf("Join(%d, %d): got %s, want %s", l, m, got.Print(), want.Print())
		}
	}
}

func TestEnough(t *testing.T) { // P5.3
	cases := []struct {
		bits int
		m    []uint64
		want bool
	}{
		{4, []uint64{5, 7}, true}, {5, []uint64{5, 7}, false}, {3, []uint64{5, 7}, true}, {0, []uint64{5, 7}, true},
		{0, nil, false}, {0, []uint64{}, false}, {0, []uint64{2}, false}, {0, []uint64{3}, true}, {1, []uint64{3}, false},
		{1, []uint64{4}, false}, {1, []uint64{5}, true}, {1, []uint64{2, 2}, false}, {1, []uint64{2, 3}, true},
		// Words that have divisors in common are words, too.
		{3, []uint64{4, 6}, true}, {4, []uint64{4, 6}, false}, {4, []uint64{4, 6, 2}, true}, {3, []uint64{17, 17}, true},
		{61, []uint64{1<<63 - 1}, true}, {62, []uint64{1<<63 - 1}, false}, {62, []uint64{1<<63 - 1, 2}, true},
		{62, []uint64{1 << 62, 2}, false}, {62, []uint64{1 << 62, 3}, true}, {63, []uint64{1 << 62, 4}, false}, {63, []uint64{1 << 62, 5}, true},
		{-1, []uint64{97}, false}, {-1, nil, false}, {math.MinInt, []uint64{97}, false},
		{100001, []uint64{97}, false}, {1 << 40, []uint64{97}, false}, {math.MaxInt, []uint64{97}, false},
	}
	for _, c := range cases {
		if got := crt.Enough(c.bits, c.m); got != c.want {
			t.Errorf("Enough(%d, %d): got %t, want %t", c.bits, c.m, got, c.want)
		}
	}
}

func TestEnoughOfManyBits(t *testing.T) { // P5.3
	twos := slices.Repeat([]uint64{2}, 100001)
	more := append(slices.Clone(twos), 2)
	many := slices.Repeat([]uint64{1<<63 - 1}, 4000)
	cases := []struct {
		bits int
		m    []uint64
		want bool
	}{
		{100000, twos, false}, {99999, twos, true}, {100000, more, true}, {100001, more, false}, {100000, many, true},
		{100001, many, false}, {100001, slices.Repeat(more, 3), false}, {100000, many[:1587], false}, {100000, many[:1588], true},
	}
	for _, c := range cases {
		if got := crt.Enough(c.bits, c.m); got != c.want {
			t.Errorf("Enough(%d, %d words of %d): got %t, want %t", c.bits, len(c.m), c.m[0], got, c.want)
		}
	}
}

func TestEnoughOfWrongWords(t *testing.T) { // P5.3
	great := slices.Repeat([]uint64{1<<63 - 1}, 50)
	for _, w := range wrongWords() {
		for _, m := range [][]uint64{{w}, {w, 97}, {97, w}, {97, w, 97}, append(great, w)} {
			if crt.Enough(0, m) || crt.Enough(3, m) {
				t.Errorf("Enough of %d: got true", m)
			}
		}
	}
	for _, w := range edgeWords() {
		if !crt.Enough(1, []uint64{w, 3}) {
			t.Errorf("Enough(1, {%d, 3}): got false", w)
		}
	}
}

func TestEnoughIsAboutTheProduct(t *testing.T) { // P5.3
	s := source(4)
	for range 1500 {
		m := make([]uint64, s.below(9))
		for i := range m {
			m[i] = s.divisor()
		}
		all := product(m)
		for off := -3; off <= 3; off++ {
			bits := all.BitLen() + off
			bound := new(big.Int).Lsh(big.NewInt(1), uint(max(0, bits+1)))
			want := bits >= 0 && all.Cmp(bound) > 0
			if got := crt.Enough(bits, m); got != want {
				t.Errorf("Enough(%d, %d): got %t, want %t", bits, m, got, want)
			}
		}
	}
}
