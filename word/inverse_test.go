package word_test

import (
	"math/big"
	"slices"
	"testing"

	"vinculum/api"
	"vinculum/word"
)

// inverse is what Inv must answer, by other means.
func inverse(x, m uint64) (uint64, api.Errno) {
	if x%m == 0 {
		return 0, api.ErrDivZero
	}
	y := new(big.Int).ModInverse(great(x), great(m))
	if y == nil {
		return 0, api.ErrInexact
	}
	return y.Uint64(), api.OK
}

// inverses is what Invs must answer.
func inverses(l []uint64, m uint64) ([]uint64, api.Errno) {
	var list []uint64
	for _, x := range l {
		y, err := inverse(x, m)
		if err != api.OK {
			return nil, err
		}
		list = append(list, y)
	}
	return list, api.OK
}

func checkInv(t *testing.T, f *word.Field, x uint64) {
	t.Helper()
	want, wantErr := inverse(x, f.M())
	if got, err := f.Inv(x); got != want || err != wantErr {
		t.Errorf("modulo %d: Inv(%d) is %d, error %d, and not %d, error %d", f.M(), x, got, int(err), want, int(wantErr))
	}
}

func checkInvs(t *testing.T, f *word.Field, l []uint64) {
	t.Helper()
	want, wantErr := inverses(l, f.M())
	got, err := f.Invs(l)
	if err != wantErr || !slices.Equal(got, want) {
		t.Errorf("modulo %d: Invs(%d) is %d, error %d, and not %d, error %d", f.M(), l, got, int(err), want, int(wantErr))
	}
}

func TestInv(t *testing.T) { // P3.2
	for _, m := range moduli() {
		f := fieldOf(t, m)
		for _, x := range numbers(m) {
			checkInv(t, f, x)
		}
	}
}

func TestInvOfSmallFields(t *testing.T) { // P3.2
	for m := uint64(2); m < 130; m++ {
		f := fieldOf(t, m)
		for x := range 2*m + 1 {
			checkInv(t, f, x)
		}
	}
}

func TestInvOfFarNumbers(t *testing.T) { // P3.2
	// Neighbours among Fibonacci's numbers take the most steps; numbers near m, its
	// half and its root take the greatest times.
	x, m := uint64(1), uint64(2)
	for m < 1<<63 {
		f := fieldOf(t, m)
		checkInv(t, f, x)
		checkInv(t, f, m-x)
		x, m = m, x+m
	}
	s := source(2)
	for _, m := range []uint64{1<<63 - 1, 1<<63 - 2, highestPrime, 1 << 62} {
		f := fieldOf(t, m)
		for i := range uint64(2000) {
			for _, x := range []uint64{i, m - i, m/2 + i, m/3 + i, 1<<32 + i, s.word()} {
				checkInv(t, f, x)
			}
		}
	}
}

func TestInvErrors(t *testing.T) { // P3.2
	cases := []struct {
		m, x, want uint64
		err        api.Errno
	}{
		{7, 0, 0, api.ErrDivZero}, {7, 14, 0, api.ErrDivZero}, {12, 24, 0, api.ErrDivZero}, {2, 4, 0, api.ErrDivZero},
		{12, 2, 0, api.ErrInexact}, {12, 15, 0, api.ErrInexact}, {9, 6, 0, api.ErrInexact}, {1 << 62, 6, 0, api.ErrInexact},
		{2, 1, 1, api.OK}, {2, 3, 1, api.OK}, {3, 2, 2, api.OK}, {12, 1, 1, api.OK}, {12, 5, 5, api.OK}, {12, 17, 5, api.OK},
		{1<<63 - 1, 2, 1 << 62, api.OK}, {1<<63 - 1, 7, 0, api.ErrInexact}, {1<<63 - 1, 1<<63 - 2, 1<<63 - 2, api.OK},
	}
	for _, c := range cases {
		if got, err := fieldOf(t, c.m).Inv(c.x); got != c.want || err != c.err {
			t.Errorf("modulo %d: Inv(%d) is %d, error %d, and not %d, error %d", c.m, c.x, got, int(err), c.want, int(c.err))
		}
	}
}

func TestInvs(t *testing.T) { // P3.2
	for _, m := range moduli() {
		f := fieldOf(t, m)
		var units []uint64
		for _, x := range numbers(m) {
			if _, err := inverse(x, m); err == api.OK {
				units = append(units, x)
			}
		}
		for n := range len(units) + 1 {
			checkInvs(t, f, units[:n])
		}
		checkInvs(t, f, numbers(m))
	}
}

func TestInvsOfManyNumbers(t *testing.T) { // P3.2
	f := fieldOf(t, 998244353)
	list := make([]uint64, 5000)
	for i := range list {
		list[i] = 2*uint64(i) + 1
	}
	checkInvs(t, f, list)
	list[4999] = 998244353
	checkInvs(t, f, list)
}

func TestInvsErrors(t *testing.T) { // P3.2
	// The error is that of the first number that has one; a product of numbers that
	// are not 0 may be 0, and one that is 0 hides all others.
	cases := []struct {
		m    uint64
		list []uint64
		want api.Errno
	}{
		{12, []uint64{5, 2, 0}, api.ErrInexact}, {12, []uint64{5, 0, 2}, api.ErrDivZero}, {12, []uint64{2, 6}, api.ErrInexact},
		{12, []uint64{3, 4, 12}, api.ErrInexact}, {12, []uint64{12}, api.ErrDivZero}, {12, []uint64{1, 1, 1, 10}, api.ErrInexact},
		{7, []uint64{1, 2, 0}, api.ErrDivZero}, {7, []uint64{0}, api.ErrDivZero}, {7, []uint64{7, 1}, api.ErrDivZero},
		{8, []uint64{2, 2, 2}, api.ErrInexact}, {8, []uint64{8, 2}, api.ErrDivZero}, {2, []uint64{1, 3, 2}, api.ErrDivZero},
		{7, nil, api.OK}, {7, []uint64{}, api.OK}, {12, nil, api.OK}, {12, []uint64{5, 7, 11, 13}, api.OK},
	}
	for _, c := range cases {
		f := fieldOf(t, c.m)
		got, err := f.Invs(c.list)
		if err != c.want {
			t.Errorf("modulo %d: Invs(%d): got the error %d, want %d", c.m, c.list, int(err), int(c.want))
		}
		if err != api.OK && got != nil {
			t.Errorf("modulo %d: Invs(%d): got %d beside an error", c.m, c.list, got)
		}
		checkInvs(t, f, c.list)
	}
}
