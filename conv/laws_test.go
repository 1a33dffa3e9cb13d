package conv_test

import (
	"slices"
	"testing"

	"vinculum/api"
	"vinculum/bigint"
	"vinculum/conv"
)

func convOf(t *testing.T, a, b []uint64, m uint64) []uint64 {
	t.Helper()
	l, err := conv.Conv(a, b, m)
	if err != api.OK {
		t.Fatalf("Conv: error %d", int(err))
	}
	return l
}

func exactOf(t *testing.T, a, b []uint64) []bigint.Int {
	t.Helper()
	l, err := conv.Exact(a, b)
	if err != api.OK {
		t.Fatalf("Exact: error %d", int(err))
	}
	return l
}

func mulOf(t *testing.T, a, b conv.Box, m uint64) conv.Box {
	t.Helper()
	box, err := conv.Mul(a, b, m)
	if err != api.OK {
		t.Fatalf("Mul: error %d", int(err))
	}
	return box
}

// pairs are lists of many lengths, two and two.
func pairs() [][2][]uint64 {
	s := source(21)
	var list [][2][]uint64
	for range 60 {
		list = append(list, [2][]uint64{s.words(s.below(9)), s.words(s.below(40))})
	}
	return append(list, [2][]uint64{s.words(1000), s.words(3000)}, [2][]uint64{s.words(4096), s.words(4096)}, [2][]uint64{s.words(1), s.words(20000)})
}

func TestProductsDoNotHangOnOrder(t *testing.T) { // P8.4
	for _, l := range pairs() {
		for _, m := range []uint64{2, 1000, 1 << 62, 1<<63 - 25, 1<<63 - 1} {
			if !slices.Equal(convOf(t, l[0], l[1], m), convOf(t, l[1], l[0], m)) {
				t.Errorf("Conv of %d and %d numbers hangs on order", len(l[0]), len(l[1]))
			}
		}
		if !slices.Equal(textsOf(exactOf(t, l[0], l[1])), textsOf(exactOf(t, l[1], l[0]))) {
			t.Errorf("Exact of %d and %d numbers hangs on order", len(l[0]), len(l[1]))
		}
	}
	s := source(22)
	for _, d := range shapes() {
		for _, e := range sameShape(d) {
			a, b := s.box(d), s.box(e)
			if !sameBox(mulOf(t, a, b, 1<<63-1), mulOf(t, b, a, 1<<63-1)) {
				t.Errorf("Mul of boxes of %d and %d hangs on order", d, e)
			}
		}
	}
}

func TestProductsDoNotHangOnWhichComesFirst(t *testing.T) { // P8.4: of three polynomials, and of three boxes
	s := source(23)
	const m = 1<<63 - 1
	for range 20 {
		a, b, c := s.words(1+s.below(50)), s.words(1+s.below(50)), s.words(1+s.below(50))
		if !slices.Equal(convOf(t, convOf(t, a, b, m), c, m), convOf(t, a, convOf(t, b, c, m), m)) {
			t.Errorf("Conv of %d, %d and %d numbers hangs on which two are first", len(a), len(b), len(c))
		}
	}
	for _, dims := range [][]int{{3}, {3, 2}, {2, 1, 3}, {2, 2, 1, 2}} {
		a, b, c := s.box(dims), s.box(dims), s.box(dims)
		if !sameBox(mulOf(t, mulOf(t, a, b, m), c, m), mulOf(t, a, mulOf(t, b, c, m), m)) {
			t.Errorf("Mul of three boxes of %d hangs on which two are first", dims)
		}
	}
}

func TestConvIsWhatIsLeftOfExact(t *testing.T) { // P8.4
	for _, l := range pairs() {
		exact := exactOf(t, l[0], l[1])
		for _, m := range []uint64{2, 10, 1 << 62, 1<<63 - 25, 1<<63 - 1} {
			want := make([]uint64, len(exact))
			for i, x := range exact {
				want[i], _ = x.Mod(m)
			}
			wantConv(t, l[0], l[1], m, want)
		}
	}
}

func TestMulOfOneVariableIsConv(t *testing.T) { // P8.4
	for _, l := range pairs() {
		if len(l[0]) == 0 || len(l[1]) == 0 {
			continue
		}
		for _, m := range []uint64{2, 10, 1 << 62, 1<<63 - 1} {
			a, b := conv.Box{Dims: []int{len(l[0])}, L: l[0]}, conv.Box{Dims: []int{len(l[1])}, L: l[1]}
			wantMul(t, a, b, m, conv.Box{Dims: []int{len(l[0]) + len(l[1]) - 1}, L: convOf(t, l[0], l[1], m)})
		}
	}
}

func TestMulOfVariablesThatAreNotThere(t *testing.T) { // P8.4: one variable among others of which there is the power 0 alone
	s := source(24)
	for v := range 8 {
		d, e := slices.Repeat([]int{1}, 8), slices.Repeat([]int{1}, 8)
		d[v], e[v] = 5, 9
		a, b := s.box(d), s.box(e)
		d = slices.Clone(d)
		d[v] = 13
		wantMul(t, a, b, 1<<63-1, conv.Box{Dims: d, L: convOf(t, a.L, b.L, 1<<63-1)})
	}
}

func TestMulOfWidenedBoxes(t *testing.T) { // P8.3: a wider box is the same polynomial
	s := source(25)
	for _, d := range shapes() {
		if len(d) > 5 {
			continue
		}
		for _, e := range sameShape(d) {
			a, b := s.box(d), s.box(e)
			wide, err := conv.Widened(a, s.wider(d))
			if err != api.OK {
				t.Fatalf("Widened: error %d", int(err))
			}
			got := mulOf(t, wide, b, 998244353)
			want, err := conv.Widened(mulOf(t, a, b, 998244353), got.Dims)
			if err != api.OK || !sameBox(got, want) {
				t.Errorf("Mul of boxes of %d, widened to %d, and of %d: got %d, want %d", d, wide.Dims, e, short(got.L), short(want.L))
			}
		}
	}
}
