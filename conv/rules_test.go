package conv_test

import (
	"math"
	"slices"
	"sync"
	"testing"

	"vinculum/api"
	"vinculum/bigint"
	"vinculum/conv"
)

// answer is what a call answers.
type answer struct {
	number  int
	words   []uint64
	dims    []int
	numbers []bigint.Int
	err     api.Errno
}

func (a answer) matches(b answer) bool {
	return a.number == b.number && slices.Equal(a.words, b.words) && slices.Equal(a.dims, b.dims) && slices.Equal(textsOf(a.numbers), textsOf(b.numbers)) && a.err == b.err
}

func (a answer) copied() answer {
	a.words, a.dims, a.numbers = slices.Clone(a.words), slices.Clone(a.dims), slices.Clone(a.numbers)
	return a
}

func numberOr(n int, err api.Errno) answer { return answer{number: n, err: err} }

func boxOr(b conv.Box, err api.Errno) answer { return answer{words: b.L, dims: b.Dims, err: err} }

// gift is what the calls are handed, each as much of it as it takes.
type gift struct {
	a, b []uint64
	d, e []int
	m    uint64
}

func (g gift) copied() gift {
	return gift{slices.Clone(g.a), slices.Clone(g.b), slices.Clone(g.d), slices.Clone(g.e), g.m}
}

func (g gift) matches(h gift) bool {
	return slices.Equal(g.a, h.a) && slices.Equal(g.b, h.b) && slices.Equal(g.d, h.d) && slices.Equal(g.e, h.e) && g.m == h.m
}

// whole are the gift's lists with what stands behind their lengths.
func (g gift) whole() gift {
	return gift{g.a[:cap(g.a)], g.b[:cap(g.b)], g.d[:cap(g.d)], g.e[:cap(g.e)], g.m}
}

// behind is a list with something behind its length.
func behind[T int | uint64](l []T) []T {
	return append(slices.Clone(l), 77, 1, 0, 5)[:len(l)]
}

func overwrite[T int | uint64](l []T) {
	l = l[:cap(l)]
	for i := range l {
		l[i] = ^l[i]
	}
}

type call func(g gift) answer

// calls are all of the package.
func calls() map[string]call {
	return map[string]call{
		"Conv": func(g gift) answer {
			l, err := conv.Conv(g.a, g.b, g.m)
			return answer{words: l, err: err}
		},
		"Exact": func(g gift) answer {
			l, err := conv.Exact(g.a, g.b)
			return answer{numbers: l, err: err}
		},
		"Size":  func(g gift) answer { return numberOr(conv.Size(g.d)) },
		"Place": func(g gift) answer { return numberOr(conv.Place(g.d, g.e)) },
		"Mul": func(g gift) answer {
			return boxOr(conv.Mul(conv.Box{Dims: g.d, L: g.a}, conv.Box{Dims: g.e, L: g.b}, g.m))
		},
		"Widened": func(g gift) answer { return boxOr(conv.Widened(conv.Box{Dims: g.d, L: g.a}, g.e)) },
	}
}

// gifts are such as calls take, and such as they do not.
func gifts() []gift {
	lists := [][]uint64{nil, {}, {0}, {math.MaxUint64}, {1, 2}, {3, 4, 5}, {1, 2, 0, math.MaxUint64}, {1, 2, 3, 4, 5, 6}}
	shapes := [][]int{nil, {}, {1}, {2}, {3}, {4}, {2, 2}, {1, 2}, {2, 3}, {-1, 0}, {0}, {mostSize + 1}, {math.MaxInt, 2}, slices.Repeat([]int{1}, 9)}
	var list []gift
	for _, a := range lists {
		for _, b := range lists {
			for _, d := range shapes {
				for _, e := range shapes {
					list = append(list, gift{a, b, d, e, []uint64{7, 1 << 62, 1, 1<<63 - 1, 1 << 63}[len(list)%5]})
				}
			}
		}
	}
	return list
}

func eachCall(do func(name string, call call, g gift)) {
	for name, call := range calls() {
		for _, g := range gifts() {
			do(name, call, g)
		}
	}
}

func TestErrorsStandAlone(t *testing.T) { // R1
	eachCall(func(name string, call call, g gift) {
		got := call(g)
		if got.err != api.OK && !got.matches(answer{err: got.err}) {
			t.Errorf("%s of %v: got %v beside an error", name, g, got)
		}
		if !slices.Contains([]api.Errno{api.OK, api.ErrArg, api.ErrLimit}, got.err) {
			t.Errorf("%s of %v: got the error %d", name, g, int(got.err))
		}
	})
}

func TestProductsAreBelow(t *testing.T) { // P8.1, P8.3
	for _, name := range []string{"Conv", "Mul"} {
		for _, g := range gifts() {
			for _, x := range calls()[name](g).words {
				if x >= g.m {
					t.Errorf("%s of %v: got %d", name, g, x)
				}
			}
		}
	}
}

func TestNothingIsWrittenInto(t *testing.T) { // R2
	eachCall(func(name string, call call, g gift) {
		want := call(g)
		handed := gift{behind(g.a), behind(g.b), behind(g.d), behind(g.e), g.m}
		kept := handed.whole().copied()
		if got := call(handed); !got.matches(want) {
			t.Errorf("%s of %v: got %v, then %v", name, g, want, got)
		}
		if !handed.whole().matches(kept) {
			t.Errorf("%s writes into %v", name, g)
		}
	})
}

func TestAnswersAreTheCallers(t *testing.T) { // R2
	eachCall(func(name string, call call, g gift) {
		handed := g.copied()
		first, second := call(handed), call(handed)
		want := first.copied()
		overwrite(first.words)
		overwrite(first.dims)
		clear(first.numbers)
		if !handed.matches(g) || !second.matches(want) {
			t.Errorf("%s of %v answers what is another's", name, g)
		}
		overwrite(handed.a)
		overwrite(handed.b)
		overwrite(handed.d)
		overwrite(handed.e)
		if !second.matches(want) {
			t.Errorf("%s answers a piece of %v", name, g)
		}
		if third := call(g); !third.matches(want) {
			t.Errorf("%s of %v: got %v after its answer was written into, want %v", name, g, third, want)
		}
	})
}

func TestOneListTwice(t *testing.T) { // R2: both arguments are one
	l := []uint64{1, 2, 3, 4}
	wantConv(t, l, l, 1000, []uint64{1, 4, 10, 20, 25, 24, 16})
	wantConv(t, l[:3], l[1:], 1000, []uint64{2, 7, 16, 17, 12})
	wantExact(t, l, l, []string{"1", "4", "10", "20", "25", "24", "16"})
	dims := []int{2, 2}
	wantPlace(t, dims, dims, 0, api.ErrArg)
	box := conv.Box{Dims: dims, L: l}
	wantMul(t, box, box, 1000, conv.Box{Dims: []int{3, 3}, L: []uint64{1, 4, 4, 6, 20, 16, 9, 24, 16}})
	wantWidened(t, box, dims)
	if !slices.Equal(l, []uint64{1, 2, 3, 4}) || !slices.Equal(dims, []int{2, 2}) {
		t.Errorf("%d or %d is written into", l, dims)
	}
}

func TestAnswersHangOnArgumentsAlone(t *testing.T) { // R3
	all := gifts()
	for name, call := range calls() {
		want := make([]answer, len(all))
		for i, g := range all {
			want[i] = call(g)
		}
		for i, g := range slices.Backward(all) {
			if got := call(g); !got.matches(want[i]) {
				t.Errorf("%s of %v: got %v, then %v", name, g, want[i], got)
			}
		}
	}
}

func TestCallsBesideOthers(t *testing.T) { // R3
	s := source(31)
	g := gift{s.words(600), s.words(300), []int{20, 30}, []int{30, 35}, 1<<63 - 1}
	h := gift{s.words(600), s.words(300), []int{20, 30}, []int{15, 20}, 1<<63 - 1}
	want := map[string]answer{}
	for name, call := range calls() {
		want[name+" of g"], want[name+" of h"] = call(g), call(h)
	}
	var group sync.WaitGroup
	for range 8 {
		group.Go(func() {
			for name, call := range calls() {
				if !call(g).matches(want[name+" of g"]) || !call(h).matches(want[name+" of h"]) {
					t.Errorf("%s beside others answers something else", name)
				}
			}
		})
	}
	group.Wait()
}
