package crt_test

import (
	"math"
	"math/big"
	"slices"
	"strconv"
	"testing"

	"vinculum/api"
	"vinculum/bigint"
	"vinculum/crt"
)

func TestLift(t *testing.T) { // P5.2
	cases := []struct {
		l, m    []uint64
		x, prod string
	}{
		{[]uint64{2, 3}, []uint64{5, 7}, "17", "35"}, {[]uint64{3, 2}, []uint64{7, 5}, "17", "35"},
		{[]uint64{0, 0}, []uint64{5, 7}, "0", "35"}, {[]uint64{4, 6}, []uint64{5, 7}, "34", "35"}, {[]uint64{5, 7}, []uint64{5, 7}, "0", "35"},
		{[]uint64{12, 18}, []uint64{5, 7}, "32", "35"}, {[]uint64{2, 3, 2}, []uint64{3, 5, 7}, "23", "105"},
		{nil, nil, "0", "1"}, {[]uint64{}, nil, "0", "1"}, {nil, []uint64{}, "0", "1"},
		{[]uint64{1}, []uint64{2}, "1", "2"}, {[]uint64{0}, []uint64{2}, "0", "2"}, {[]uint64{9}, []uint64{7}, "2", "7"},
		{[]uint64{1, 1}, []uint64{4, 9}, "1", "36"}, {[]uint64{3, 8}, []uint64{4, 9}, "35", "36"},
		{[]uint64{math.MaxUint64}, []uint64{1<<63 - 1}, "1", "9223372036854775807"},
		{[]uint64{math.MaxUint64, math.MaxUint64}, []uint64{1<<63 - 1, 2}, "1", "18446744073709551614"},
		{[]uint64{1<<63 - 2, 1<<63 - 3}, []uint64{1<<63 - 1, 1<<63 - 2}, "85070591730234615838173535747377725441", "85070591730234615838173535747377725442"},
	}
	for _, c := range cases {
		x, all, err := crt.Lift(c.l, c.m)
		if x.Print() != c.x || all.Print() != c.prod || err != api.OK {
			t.Errorf("Lift(%d, %d): got %s, %s, error %d, want %s, %s", c.l, c.m, x.Print(), all.Print(), int(err), c.x, c.prod)
		}
	}
}

// checkLifted fails, if x is not the least number from 0 on that leaves l by m,
// or all is not their product.
func checkLifted(t *testing.T, x, all bigint.Int, l, m []uint64) {
	t.Helper()
	if want := product(m); toBig(all).Cmp(want) != 0 {
		t.Errorf("Lift of %d words: got the product %s, want %v", len(m), all.Print(), want)
	}
	if x.Sign() < 0 || x.Cmp(all) >= 0 {
		t.Errorf("Lift of %d words: got %s, which is not from 0 to %s less 1", len(m), x.Print(), all.Print())
	}
	for i, w := range m {
		left := new(big.Int).Mod(toBig(x), new(big.Int).SetUint64(w))
		if left.Uint64() != l[i]%w {
			t.Errorf("Lift of %d words: %s leaves %v by %d, want %d", len(m), x.Print(), left, w, l[i]%w)
		}
	}
}

func TestLiftIsWhatItMustBe(t *testing.T) { // P5.2
	s := source(11)
	for n := range 30 {
		for range 60 {
			m := s.apart(n)
			l := s.words(m)
			x, all, err := crt.Lift(l, m)
			wantErr(t, "Lift", err, api.OK)
			checkLifted(t, x, all, l, m)
		}
	}
}

func TestLiftOfSmallWords(t *testing.T) { // P5.2: all there are
	for a := uint64(2); a < 13; a++ {
		for b := uint64(2); b < 13; b++ {
			apart := new(big.Int).GCD(nil, nil, new(big.Int).SetUint64(a), new(big.Int).SetUint64(b)).Uint64() == 1
			for n := range a * b {
				x, all, err := crt.Lift([]uint64{n % a, n % b}, []uint64{a, b})
				switch {
				case !apart && (err != api.ErrInexact || x.Sign() != 0 || all.Sign() != 0):
					t.Errorf("Lift by %d and %d: got %s, %s, error %d", a, b, x.Print(), all.Print(), int(err))
				case apart && (err != api.OK || x.Print() != strconv.FormatUint(n, 10)):
					t.Errorf("Lift by %d and %d: got %s, error %d, want %d", a, b, x.Print(), int(err), n)
				}
			}
		}
	}
}

// greatest are so many words that may be, no two of which have a divisor in
// common: primes, sought downwards from the greatest word.
func greatest(n int) []uint64 {
	var m []uint64
	for w := uint64(1<<63 - 1); len(m) < n; w -= 2 {
		if new(big.Int).SetUint64(w).ProbablyPrime(0) {
			m = append(m, w)
		}
	}
	return m
}

func TestLiftAtItsLimit(t *testing.T) { // P5.2
	m := greatest(1025)
	s := source(12)
	l := s.words(m)
	x, all, err := crt.Lift(l[:1024], m[:1024])
	wantErr(t, "Lift of 1024 words", err, api.OK)
	checkLifted(t, x, all, l[:1024], m[:1024])
	x, all, err = crt.Lift(l, m)
	wantErr(t, "Lift of 1025 words", err, api.ErrLimit)
	if x.Sign() != 0 || all.Sign() != 0 {
		t.Error("Lift of 1025 words: got numbers beside an error")
	}
	_, err = crt.Join(l, m)
	wantErr(t, "Join of 1025 words", err, api.ErrLimit)
}

func TestLiftErrors(t *testing.T) { // P5.2, P5.3: the first that is named is answered
	threes := slices.Repeat([]uint64{3}, 1025)
	cases := []struct {
		what string
		l, m []uint64
		want api.Errno
	}{
		{"more left", []uint64{1}, nil, api.ErrArg}, {"more words", nil, []uint64{5}, api.ErrArg},
		{"more words than left", []uint64{1, 2}, []uint64{5, 7, 9}, api.ErrArg}, {"more left than words", []uint64{1, 2, 3}, []uint64{5, 7}, api.ErrArg},
		{"not as many, and wrong words", []uint64{1}, []uint64{1, 0}, api.ErrArg},
		{"not as many, and too many", threes[:1024], threes, api.ErrArg},
		{"not as many, and the same word twice", []uint64{1}, []uint64{3, 3}, api.ErrArg},
		{"a wrong word, and the same word twice", []uint64{1, 1, 1}, []uint64{3, 3, 1}, api.ErrArg},
		{"too many, and a wrong word at the end", make([]uint64, 1026), append(slices.Clone(threes), 1), api.ErrArg},
		{"too many, and a wrong word ahead", make([]uint64, 1026), append([]uint64{0}, threes...), api.ErrArg},
		{"too many, and all the same", make([]uint64, 1025), threes, api.ErrLimit},
		{"many, and all the same", make([]uint64, 1024), threes[:1024], api.ErrInexact},
		{"the same word twice", []uint64{2, 2}, []uint64{5, 5}, api.ErrInexact},
		{"the same even word twice", []uint64{1, 1}, []uint64{1 << 62, 1 << 62}, api.ErrInexact},
		{"a divisor in common, and one that would go up", []uint64{1, 1}, []uint64{4, 6}, api.ErrInexact},
		{"a word that divides another", []uint64{1, 1}, []uint64{4, 2}, api.ErrInexact},
		{"a word that is divided by another", []uint64{1, 1}, []uint64{2, 4}, api.ErrInexact},
		{"the first and the last", []uint64{1, 2, 3}, []uint64{6, 35, 9}, api.ErrInexact},
		{"the last two", []uint64{1, 2, 3}, []uint64{7, 10, 15}, api.ErrInexact},
		{"a word that divides a product of two", []uint64{1, 2, 3}, []uint64{2, 3, 6}, api.ErrInexact},
		{"great words", []uint64{0, 0}, []uint64{1<<63 - 1, 7}, api.ErrInexact},
		{"what leaves the same", []uint64{0, 0}, []uint64{10, 15}, api.ErrInexact},
	}
	for _, w := range wrongWords() {
		cases = append(cases, []struct {
			what string
			l, m []uint64
			want api.Errno
		}{
			{"one wrong word", []uint64{0}, []uint64{w}, api.ErrArg}, {"a wrong word first", []uint64{1, 2}, []uint64{w, 5}, api.ErrArg},
			{"a wrong word last", []uint64{1, 2}, []uint64{5, w}, api.ErrArg}, {"a wrong word between", []uint64{1, 2, 3}, []uint64{5, w, 7}, api.ErrArg},
		}...)
	}
	for _, c := range cases {
		x, all, err := crt.Lift(c.l, c.m)
		wantErr(t, "Lift: "+c.what, err, c.want)
		wantNumber(t, "Lift: "+c.what, x, "0")
		wantNumber(t, "Lift: "+c.what, all, "0")
		x, err = crt.Join(c.l, c.m)
		wantErr(t, "Join: "+c.what, err, c.want)
		wantNumber(t, "Join: "+c.what, x, "0")
	}
}

func TestStep(t *testing.T) { // P5.2
	cases := []struct {
		x, all  string
		r, m    uint64
		y, prod string
	}{
		{"17", "35", 1, 2, "17", "70"}, {"17", "35", 0, 2, "52", "70"}, {"-18", "35", 4, 11, "367", "385"},
		{"0", "1", 5, 7, "5", "7"}, {"3", "1", 5, 7, "5", "7"}, {"-3", "1", 12, 7, "5", "7"}, {"0", "1", 0, 2, "0", "2"},
		// x is taken by all, and r by m.
		{"52", "35", 1, 2, "17", "70"}, {"87", "35", 3, 2, "17", "70"}, {"-53", "35", math.MaxUint64, 2, "17", "70"},
		{"35", "35", 0, 2, "0", "70"}, {"-35", "35", 2, 2, "0", "70"}, {"36", "35", 0, 2, "36", "70"}, {"69", "35", 1, 2, "69", "70"},
		{"2", "3", 1, 4, "5", "12"}, {"2", "4", 1, 3, "10", "12"},
		{"-1", "18446744073709551616", 2, 3, "55340232221128654847", "55340232221128654848"},
		{"-1", "18446744073709551616", 1<<63 - 2, 1<<63 - 1, "170141183460469231713240559642174554111", "170141183460469231713240559642174554112"},
		{"0", "18446744073709551616", 0, 1<<63 - 1, "0", "170141183460469231713240559642174554112"},
	}
	for _, c := range cases {
		y, all, err := crt.Step(parsed(t, c.x), parsed(t, c.all), c.r, c.m)
		if y.Print() != c.y || all.Print() != c.prod || err != api.OK {
			t.Errorf("Step(%s, %s, %d, %d): got %s, %s, error %d, want %s, %s", c.x, c.all, c.r, c.m, y.Print(), all.Print(), int(err), c.y, c.prod)
		}
	}
}

func TestStepIsWhatItMustBe(t *testing.T) { // P5.2
	s := source(13)
	one := big.NewInt(1)
	for range 4000 {
		x, all, r, m := s.number(s.below(5)), s.number(1+s.below(4)), s.sized(), s.divisor()
		if all.Sign() < 0 {
			all = all.Neg()
		}
		if s.below(4) == 0 {
			all = bigint.Of(1 + s.below(30))
		}
		word := new(big.Int).SetUint64(m)
		y, prod, err := crt.Step(x, all, r, m)
		if new(big.Int).GCD(nil, nil, toBig(all), word).Cmp(one) != 0 {
			if err != api.ErrInexact || y.Sign() != 0 || prod.Sign() != 0 {
				t.Errorf("Step(%s, %s, %d, %d): got %s, %s, error %d", x.Print(), all.Print(), r, m, y.Print(), prod.Print(), int(err))
			}
			continue
		}
		off := new(big.Int).Sub(toBig(y), toBig(x))
		left := new(big.Int).Mod(toBig(y), word)
		if err != api.OK || y.Sign() < 0 || y.Cmp(prod) >= 0 || off.Mod(off, toBig(all)).Sign() != 0 || left.Uint64() != r%m ||
			toBig(prod).Cmp(new(big.Int).Mul(toBig(all), word)) != 0 {
			t.Errorf("Step(%s, %s, %d, %d): got %s, %s, error %d", x.Print(), all.Print(), r, m, y.Print(), prod.Print(), int(err))
		}
	}
}

func TestStepErrors(t *testing.T) { // P5.2
	cases := []struct {
		all  string
		m    uint64
		want api.Errno
	}{
		{"0", 2, api.ErrArg}, {"-1", 2, api.ErrArg}, {"-35", 2, api.ErrArg}, {"-18446744073709551616", 2, api.ErrArg},
		{"-6", 4, api.ErrArg}, {"0", 0, api.ErrArg}, {"0", 1, api.ErrArg},
		{"6", 4, api.ErrInexact}, {"6", 6, api.ErrInexact}, {"12", 6, api.ErrInexact}, {"6", 12, api.ErrInexact},
		{"2", 2, api.ErrInexact}, {"18446744073709551616", 2, api.ErrInexact}, {"18446744073709551616", 1 << 62, api.ErrInexact},
		{"9223372036854775807", 1<<63 - 1, api.ErrInexact}, {"9223372036854775807", 7, api.ErrInexact}, {"7", 1<<63 - 1, api.ErrInexact},
		{"1", 2, api.OK}, {"1", 1<<63 - 1, api.OK},
	}
	for _, w := range wrongWords() {
		for _, all := range []string{"1", "2", "6", "35", "18446744073709551616", "0", "-1"} {
			cases = append(cases, struct {
				all  string
				m    uint64
				want api.Errno
			}{all, w, api.ErrArg})
		}
	}
	for _, c := range cases {
		for _, x := range []string{"0", "1", "-1", "1000000000000000000000000"} {
			for _, r := range []uint64{0, 1, math.MaxUint64} {
				what := "Step(" + x + ", " + c.all + ", " + strconv.FormatUint(r, 10) + ", " + strconv.FormatUint(c.m, 10) + ")"
				y, all, err := crt.Step(parsed(t, x), parsed(t, c.all), r, c.m)
				wantErr(t, what, err, c.want)
				if err != api.OK {
					wantNumber(t, what, y, "0")
					wantNumber(t, what, all, "0")
				}
			}
		}
	}
}
