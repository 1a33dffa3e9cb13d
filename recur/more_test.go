package recur_test

import (
	"math"
	"slices"
	"testing"

	"vinculum/api"
	"vinculum/recur"
)

func wantMore(t *testing.T, p uint64, r rule, l row, many int, want row) {
	t.Helper()
	got, err := recur.More(p, r, l, many)
	if err != api.OK || !slices.Equal(got, want) {
		t.Errorf("modulo %d: More of a rule of %d numbers, %d, a row of %d, %d, and %d more: got %d numbers, %d, error %d, want %d, %d", p, len(r), short(r), len(l), short(l), many, len(got), short(got), int(err), len(want), short(want))
	}
}

func TestMore(t *testing.T) { // P10.2
	cases := []struct {
		p    uint64
		r    rule
		l    row
		many int
		want row
	}{
		{7, rule{6, 6}, row{1, 1}, 3, row{1, 1, 2, 3, 5}}, {7, rule{6, 6}, row{1, 1}, 0, row{1, 1}}, {7, rule{6, 6}, row{8, 15}, 0, row{1, 1}}, {7, rule{13, 20}, row{8, 15}, 3, row{1, 1, 2, 3, 5}},
		{7, rule{6, 6}, row{4, 4, 4, 1, 1}, 2, row{4, 4, 4, 1, 1, 2, 3}}, {7, rule{6, 6}, row{3, 3, 3, 0}, 2, row{3, 3, 3, 0, 3, 3}}, {7, nil, nil, 0, nil}, {7, nil, nil, 2, row{0, 0}}, {7, nil, row{3, 9}, 2, row{3, 2, 0, 0}},
		{7, rule{0}, row{3}, 2, row{3, 0, 0}}, {7, rule{0, 7}, row{3, 4}, 2, row{3, 4, 0, 0}}, {7, rule{0, 0, 6}, row{1, 2, 3}, 5, row{1, 2, 3, 1, 2, 3, 1, 2}}, {7, rule{1}, row{3}, 3, row{3, 4, 3, 4}},
		{2, rule{1, 1}, row{0, 1}, 4, row{0, 1, 1, 0, 1, 1}}, {greatest, rule{1}, row{1}, 2, row{1, greatest - 1, 1}}, {greatest, rule{math.MaxUint64}, row{math.MaxUint64}, 1, row{49, greatest - 2401}},
	}
	for _, c := range cases {
		wantMore(t, c.p, c.r, c.l, c.many, c.want)
	}
}

func TestMoreOfMany(t *testing.T) { // P10.2
	s := source(21)
	for _, p := range primes() {
		for n := range 9 {
			for many := range 20 {
				r, l := rule(s.words(n)), s.words(n+s.below(4))
				wantMore(t, p, r, l, many, moreOf(p, r, l, many))
			}
		}
	}
}

func TestMoreOfLongRulesAndRows(t *testing.T) { // P10.2: of lengths at which numbers are put behind a row by halves
	s := source(22)
	for _, p := range []uint64{2, 97, 998244353, greatest} {
		for _, n := range []int{0, 1, 2, 30, 63, 64, 65, 66, 130, 300} {
			for _, many := range []int{1, 31, 32, 33, 63, 64, 65, 66, 127, 128, 129, 130, 200, 257, 500} {
				r, l := rule(s.words(n)), s.words(n+s.below(100))
				wantMore(t, p, r, l, many, moreOf(p, r, l, many))
			}
		}
	}
}

func TestMoreOfVeryLongRules(t *testing.T) { // P10.2: of lengths at which products go by primes
	s := source(23)
	r, l := rule(s.words(4000)), s.words(4100)
	for _, many := range []int{1, 3000, 7000, 9001} {
		got, err := recur.More(greatest, r, l, many)
		if err != api.OK || len(got) != len(l)+many || !slices.Equal(got[:len(l)], leftOf(l, greatest)) {
			t.Fatalf("More of %d more: got %d numbers, error %d", many, len(got), int(err))
		}
		for place := len(l); place < len(got); place += 1 + place/200 {
			if sumAt(greatest, r, got, place) != 0 {
				t.Errorf("More of %d more: the number at %d is wrong", many, place)
			}
		}
		if sumAt(greatest, r, got, len(got)-1) != 0 {
			t.Errorf("More of %d more: the last number is wrong", many)
		}
	}
}

func TestMoreOfRulesThatAreLongerThanWhatIsAsked(t *testing.T) { // P10.2
	s := source(24)
	r, l := rule(s.words(100000)), s.words(100000)
	wantMore(t, greatest, r, l, 3, moreOf(greatest, r, l, 3))
	wantMore(t, greatest, r, l, 0, leftOf(l, greatest))
}

func TestMoreErrors(t *testing.T) { // P10.2
	cases := []struct {
		r    rule
		l    row
		many int
		want api.Errno
	}{
		{rule{6, 6}, row{1, 1}, -1, api.ErrArg}, {rule{6, 6}, row{1, 1}, math.MinInt, api.ErrArg}, {nil, nil, -1, api.ErrArg}, {rule{6, 6}, row{1}, 0, api.ErrArg}, {rule{6, 6}, nil, 5, api.ErrArg}, {rule{0}, nil, 0, api.ErrArg},
		{rule{6, 6}, row{1, 1}, 100001, api.ErrLimit}, {rule{6, 6}, row{1, 1}, math.MaxInt, api.ErrLimit}, {nil, nil, 100001, api.ErrLimit},
		{rule{6, 6}, row{1}, 100001, api.ErrArg}, {rule{6, 6}, row{1}, -1, api.ErrArg}, {rule{6, 6}, nil, math.MaxInt, api.ErrArg},
	}
	for _, c := range cases {
		if got, err := recur.More(7, c.r, c.l, c.many); len(got) != 0 || err != c.want {
			t.Errorf("More of %d, %d, %d: got %d numbers, error %d, want error %d", c.r, c.l, c.many, len(got), int(err), int(c.want))
		}
	}
}

func TestMoreLimit(t *testing.T) { // P10.2: of what is put behind the row alone, not of the row
	r := rule{greatest - 1, greatest - 1}
	wantMore(t, greatest, r, row{1, 1}, 100000, moreOf(greatest, r, row{1, 1}, 100000))
	wantMore(t, 7, nil, nil, 100000, make(row, 100000))
	long := make(row, 150000)
	long[149999] = 1
	wantMore(t, greatest, r, long, 100000, moreOf(greatest, r, long, 100000))
}
