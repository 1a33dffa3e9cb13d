package conv_test

import (
	"math"
	"slices"
	"testing"

	"vinculum/api"
	"vinculum/conv"
)

// mostSize is how many coefficients a box may have.
const mostSize = 65536

// shapes are Dims of every number of variables, with 1 among them.
func shapes() [][]int {
	return [][]int{
		nil, {1}, {2}, {7}, {1, 1}, {2, 3}, {3, 2}, {5, 1}, {1, 5}, {2, 3, 4}, {4, 1, 3}, {1, 1, 6}, {3, 2, 1, 2}, {2, 2, 2, 2}, {1, 3, 1, 3, 2}, {2, 1, 2, 3, 1, 2},
		{1, 2, 2, 1, 2, 1, 3}, {2, 1, 2, 2, 1, 3, 1, 2}, {2, 2, 2, 2, 2, 2, 2, 2}, {1, 1, 1, 1, 1, 1, 1, 1},
	}
}

// productOf is that of numbers.
func productOf(dims []int) int {
	size := 1
	for _, d := range dims {
		size *= d
	}
	return size
}

// exponents are those of a place, the last one by what is left of it.
func exponents(dims []int, place int) []int {
	exps := make([]int, len(dims))
	for i := len(dims) - 1; i >= 0; i-- {
		exps[i] = place % dims[i]
		place /= dims[i]
	}
	return exps
}

// placeOf is the sum of the exponents, each times the product of the Dims behind its own.
func placeOf(dims, exps []int) int {
	place := 0
	for i, e := range exps {
		place += e * productOf(dims[i+1:])
	}
	return place
}

// sameShape are Dims of as many numbers.
func sameShape(dims []int) [][]int {
	return slices.DeleteFunc(shapes(), func(d []int) bool { return len(d) != len(dims) })
}

// plainBox is the product of two boxes, exponent by exponent.
func plainBox(a, b conv.Box, m uint64) conv.Box {
	dims := make([]int, len(a.Dims))
	for i := range dims {
		dims[i] = a.Dims[i] + b.Dims[i] - 1
	}
	l := make([]uint64, productOf(dims))
	for i, x := range a.L {
		for j, y := range b.L {
			exps := exponents(a.Dims, i)
			for v, e := range exponents(b.Dims, j) {
				exps[v] += e
			}
			at := placeOf(dims, exps)
			l[at] = plus(l[at], times(x, y, m), m)
		}
	}
	return conv.Box{Dims: dims, L: l}
}

func (s *source) box(dims []int) conv.Box { return conv.Box{Dims: dims, L: s.words(productOf(dims))} }

func sameBox(a, b conv.Box) bool { return slices.Equal(a.Dims, b.Dims) && slices.Equal(a.L, b.L) }

func isNone(a conv.Box) bool { return len(a.Dims) == 0 && len(a.L) == 0 }

func wantSize(t *testing.T, dims []int, want int, wantErr api.Errno) {
	t.Helper()
	if got, err := conv.Size(dims); got != want || err != wantErr {
		t.Errorf("Size(%d): got %d, error %d, want %d, error %d", dims, got, int(err), want, int(wantErr))
	}
}

func wantPlace(t *testing.T, dims, exps []int, want int, wantErr api.Errno) {
	t.Helper()
	if got, err := conv.Place(dims, exps); got != want || err != wantErr {
		t.Errorf("Place(%d, %d): got %d, error %d, want %d, error %d", dims, exps, got, int(err), want, int(wantErr))
	}
}

func wantMul(t *testing.T, a, b conv.Box, m uint64, want conv.Box) {
	t.Helper()
	if got, err := conv.Mul(a, b, m); err != api.OK || !sameBox(got, want) {
		t.Errorf("Mul of boxes of %d and %d modulo %d: got %d, %d, error %d, want %d, %d", a.Dims, b.Dims, m, got.Dims, short(got.L), int(err), want.Dims, short(want.L))
	}
}

func wantMulErr(t *testing.T, a, b conv.Box, m uint64, want api.Errno) {
	t.Helper()
	if got, err := conv.Mul(a, b, m); err != want || !isNone(got) {
		t.Errorf("Mul of boxes of %d and %d modulo %d: got %d, %d, error %d, want the error %d", a.Dims, b.Dims, m, got.Dims, short(got.L), int(err), int(want))
	}
}

func wantWidenedErr(t *testing.T, a conv.Box, dims []int, want api.Errno) {
	t.Helper()
	if got, err := conv.Widened(a, dims); err != want || !isNone(got) {
		t.Errorf("Widened of a box of %d to %d: got %d, %d, error %d, want the error %d", a.Dims, dims, got.Dims, short(got.L), int(err), int(want))
	}
}

// badDims are those of no box.
func badDims() [][]int {
	return [][]int{
		{0}, {-1}, {math.MinInt}, {2, 0}, {0, 2}, {70000, 0}, {0, 70000}, {math.MaxInt, -1}, {1, 1, 1, 1, 1, 1, 1, 0}, make([]int, 8), make([]int, 9),
		slices.Repeat([]int{1}, 9), slices.Repeat([]int{2}, 9), slices.Repeat([]int{70000}, 9), slices.Repeat([]int{1}, 1000),
	}
}

// greatDims are those of boxes that would be too great.
func greatDims() [][]int {
	return [][]int{
		{mostSize + 1}, {256, 257}, {257, 256}, {1, mostSize + 1}, {mostSize, 2}, {2, mostSize}, {mostSize/2 + 1, 2}, {3, mostSize/3 + 1}, {math.MaxInt}, {1 << 62, 4}, {4, 1 << 62}, {1 << 32, 1 << 32},
		{math.MaxInt, math.MaxInt}, {1 << 16, 1 << 16, 1 << 16, 1 << 16}, {4, 4, 4, 4, 4, 4, 4, 5}, slices.Repeat([]int{math.MaxInt}, 8), slices.Repeat([]int{256}, 8),
	}
}

func TestSize(t *testing.T) { // P8.2
	for _, dims := range append(shapes(), []int{}, []int{mostSize}, []int{mostSize - 1}, []int{256, 256}, []int{1, mostSize}, []int{mostSize, 1}, []int{3, mostSize / 3}, []int{4, 4, 4, 4, 4, 4, 4, 4}) {
		wantSize(t, dims, productOf(dims), api.OK)
	}
	for _, dims := range badDims() {
		wantSize(t, dims, 0, api.ErrArg)
	}
	for _, dims := range greatDims() {
		wantSize(t, dims, 0, api.ErrLimit)
	}
}

func TestPlace(t *testing.T) { // P8.2
	wantPlace(t, []int{2, 3}, []int{1, 2}, 5, api.OK)
	wantPlace(t, []int{2, 3, 5}, []int{1, 0, 3}, 18, api.OK)
	wantPlace(t, nil, []int{}, 0, api.OK)
	wantPlace(t, []int{256, 256}, []int{255, 255}, 65535, api.OK)
	for _, dims := range shapes() {
		for place := range productOf(dims) {
			wantPlace(t, dims, exponents(dims, place), place, api.OK)
		}
	}
}

func TestPlaceOfNone(t *testing.T) { // P8.2
	for _, dims := range badDims() {
		wantPlace(t, dims, make([]int, len(dims)), 0, api.ErrArg)
		wantPlace(t, dims, nil, 0, api.ErrArg)
	}
	for _, dims := range greatDims() {
		wantPlace(t, dims, make([]int, len(dims)), 0, api.ErrLimit)
		wantPlace(t, dims, nil, 0, api.ErrLimit)
		wantPlace(t, dims, slices.Repeat([]int{-1}, len(dims)), 0, api.ErrLimit)
	}
	for _, dims := range shapes() {
		wantPlace(t, dims, make([]int, len(dims)+1), 0, api.ErrArg)
		if len(dims) > 0 {
			wantPlace(t, dims, make([]int, len(dims)-1), 0, api.ErrArg)
		}
		for v, d := range dims {
			for _, e := range []int{-1, d, d + 1, math.MinInt, math.MaxInt} {
				exps := make([]int, len(dims))
				exps[v] = e
				wantPlace(t, dims, exps, 0, api.ErrArg)
			}
		}
	}
}

func TestMul(t *testing.T) { // P8.3
	// (1 + 2y + 3x + 4xy) times (1 + x), and times (1 + y).
	a := conv.Box{Dims: []int{2, 2}, L: []uint64{1, 2, 3, 4}}
	wantMul(t, a, conv.Box{Dims: []int{2, 1}, L: []uint64{1, 1}}, 100, conv.Box{Dims: []int{3, 2}, L: []uint64{1, 2, 4, 6, 3, 4}})
	wantMul(t, a, conv.Box{Dims: []int{1, 2}, L: []uint64{1, 1}}, 100, conv.Box{Dims: []int{2, 3}, L: []uint64{1, 3, 2, 3, 7, 4}})
	wantMul(t, a, conv.Box{Dims: []int{1, 1}, L: []uint64{3}}, 5, conv.Box{Dims: []int{2, 2}, L: []uint64{3, 1, 4, 2}})
	wantMul(t, conv.Box{L: []uint64{6}}, conv.Box{Dims: []int{}, L: []uint64{7}}, 10, conv.Box{L: []uint64{2}})
	wantMul(t, conv.Box{Dims: []int{2}, L: []uint64{0, 0}}, conv.Box{Dims: []int{2}, L: []uint64{1, 1}}, 7, conv.Box{Dims: []int{3}, L: []uint64{0, 0, 0}})
}

func TestMulOfAllShapes(t *testing.T) { // P8.3
	s := source(11)
	for _, d := range shapes() {
		for _, e := range sameShape(d) {
			for _, m := range []uint64{2, 1 << 62, 1<<63 - 1, 998244353} {
				a, b := s.box(d), s.box(e)
				wantMul(t, a, b, m, plainBox(a, b, m))
			}
		}
	}
}

func TestGreatestBoxes(t *testing.T) { // P8.3: products just as great as may be, and one greater
	s := source(12)
	cases := []struct{ a, b []int }{
		{[]int{mostSize}, []int{1}}, {[]int{mostSize - 2}, []int{3}}, {[]int{256, 255}, []int{1, 2}}, {[]int{2, 16383}, []int{3, 2}}, {[]int{1, 1, 1, 1, 1, 1, 1, mostSize - 1}, []int{1, 1, 1, 1, 1, 1, 1, 2}},
		{[]int{4, 4, 4, 4, 4, 4, 4, 4}, []int{1, 1, 1, 1, 1, 1, 1, 1}}, {[]int{2, 2, 4, 4, 4, 4, 4, 4}, []int{3, 3, 1, 1, 1, 1, 1, 1}},
	}
	for _, c := range cases {
		a, b := s.box(c.a), s.box(c.b)
		wantMul(t, a, b, 1<<63-25, plainBox(a, b, 1<<63-25))
		b = s.box(append([]int{c.b[0] + 1}, c.b[1:]...))
		wantMulErr(t, a, b, 1<<63-25, api.ErrLimit)
		wantMulErr(t, b, a, 1<<63-25, api.ErrLimit)
	}
	half := s.box([]int{mostSize/2 + 1})
	wantMulErr(t, half, half, 7, api.ErrLimit)
	square := s.box([]int{256, 256})
	wantMulErr(t, square, square, 7, api.ErrLimit)
	wantMulErr(t, square, s.box([]int{1, 2}), 7, api.ErrLimit)
}

// badBoxes may not be: of their Dims there is no Size, or L has another length.
func badBoxes() []conv.Box {
	list := []conv.Box{{}, {L: []uint64{1, 2}}, {Dims: []int{1}}, {Dims: []int{2}, L: []uint64{1}}, {Dims: []int{2}, L: []uint64{1, 2, 3}}, {Dims: []int{2, 2}, L: []uint64{1, 2, 3}}, {Dims: []int{2, 2}, L: []uint64{1, 2, 3, 4, 5}}}
	for _, dims := range append(badDims(), greatDims()...) {
		list = append(list, conv.Box{Dims: dims}, conv.Box{Dims: dims, L: []uint64{1}})
	}
	return append(list, conv.Box{Dims: []int{mostSize + 1}, L: make([]uint64, mostSize+1)}, conv.Box{Dims: []int{256, 257}, L: make([]uint64, 256*257)})
}

func TestMulOfBadBoxes(t *testing.T) { // P8.3
	for _, bad := range badBoxes() {
		for _, dims := range [][]int{slices.Repeat([]int{1}, min(8, len(bad.Dims))), {mostSize}, nil, {2, 2}} {
			good := conv.Box{Dims: dims, L: make([]uint64, productOf(dims))}
			wantMulErr(t, bad, good, 7, api.ErrArg)
			wantMulErr(t, good, bad, 7, api.ErrArg)
		}
		wantMulErr(t, bad, bad, 7, api.ErrArg)
	}
}

func TestMulOfOtherVariablesAndModuli(t *testing.T) { // P8.3: named ahead of the limit
	great := conv.Box{Dims: []int{mostSize}, L: make([]uint64, mostSize)}
	for _, d := range shapes() {
		a := conv.Box{Dims: d, L: make([]uint64, productOf(d))}
		for _, e := range shapes() {
			if len(d) != len(e) {
				wantMulErr(t, a, conv.Box{Dims: e, L: make([]uint64, productOf(e))}, 7, api.ErrArg)
			}
		}
		if len(d) != 1 {
			wantMulErr(t, a, great, 7, api.ErrArg)
		}
		for _, m := range badModuli() {
			wantMulErr(t, a, a, m, api.ErrArg)
		}
	}
	for _, m := range badModuli() {
		wantMulErr(t, great, great, m, api.ErrArg)
	}
	wantMulErr(t, great, great, 7, api.ErrLimit)
}

// wider are Dims that are as great as others, or greater.
func (s *source) wider(dims []int) []int {
	more := slices.Clone(dims)
	for i := range more {
		more[i] += s.below(3)
	}
	return more
}

func wantWidened(t *testing.T, a conv.Box, dims []int) {
	t.Helper()
	want := make([]uint64, productOf(dims))
	for i, x := range a.L {
		want[placeOf(dims, exponents(a.Dims, i))] = x
	}
	if got, err := conv.Widened(a, dims); err != api.OK || !sameBox(got, conv.Box{Dims: dims, L: want}) {
		t.Errorf("Widened of %d, %d to %d: got %d, %d, error %d, want %d", a.Dims, short(a.L), dims, got.Dims, short(got.L), int(err), short(want))
	}
}

func TestWidened(t *testing.T) { // P8.3
	got, err := conv.Widened(conv.Box{Dims: []int{2, 2}, L: []uint64{1, 2, 3, math.MaxUint64}}, []int{3, 3})
	if err != api.OK || !slices.Equal(got.Dims, []int{3, 3}) || !slices.Equal(got.L, []uint64{1, 2, 0, 3, math.MaxUint64, 0, 0, 0, 0}) {
		t.Errorf("got %d, %d, error %d", got.Dims, got.L, int(err))
	}
	s := source(13)
	for _, d := range shapes() {
		a := s.box(d)
		wantWidened(t, a, d)
		for range 4 {
			wantWidened(t, a, s.wider(d))
		}
	}
	wantWidened(t, s.box([]int{mostSize}), []int{mostSize})
	wantWidened(t, s.box([]int{1}), []int{mostSize})
	wantWidened(t, s.box([]int{255, 100}), []int{256, 256})
	wantWidened(t, s.box([]int{3, 3, 3, 3, 3, 3, 3, 3}), slices.Repeat([]int{4}, 8))
}

func TestWidenedOfNone(t *testing.T) { // P8.3
	for _, bad := range badBoxes() {
		wantWidenedErr(t, bad, bad.Dims, api.ErrArg)
		wantWidenedErr(t, bad, slices.Repeat([]int{mostSize + 1}, len(bad.Dims)), api.ErrArg)
		wantWidenedErr(t, bad, nil, api.ErrArg)
	}
	s := source(14)
	for _, d := range shapes() {
		a := s.box(d)
		wantWidenedErr(t, a, append(slices.Clone(d), 1), api.ErrArg)
		wantWidenedErr(t, a, append(slices.Clone(d), mostSize+1), api.ErrArg)
		if len(d) > 0 {
			wantWidenedErr(t, a, d[:len(d)-1], api.ErrArg)
			wantWidenedErr(t, a, slices.Repeat([]int{mostSize + 1}, len(d)), api.ErrLimit)
			wantWidenedErr(t, a, slices.Repeat([]int{math.MaxInt}, len(d)), api.ErrLimit)
		}
		for v := range d {
			for _, e := range []int{d[v] - 1, 0, -1, math.MinInt} {
				// Another number that is too great does not hide the one that is too small.
				dims := slices.Repeat([]int{mostSize + 1}, len(d))
				dims[v] = e
				wantWidenedErr(t, a, dims, api.ErrArg)
				dims = s.wider(d)
				dims[v] = e
				wantWidenedErr(t, a, dims, api.ErrArg)
			}
		}
	}
	wantWidenedErr(t, s.box([]int{256, 256}), []int{256, 257}, api.ErrLimit)
}
