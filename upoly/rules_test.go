package upoly_test

import (
	"math"
	"slices"
	"sync"
	"testing"

	"vinculum/api"
	"vinculum/upoly"
)

// answer is what a call answers.
type answer struct {
	number uint64
	lists  [3]poly
	err    api.Errno
}

func (a answer) matches(b answer) bool {
	for i := range a.lists {
		if !slices.Equal(a.lists[i], b.lists[i]) {
			return false
		}
	}
	return a.number == b.number && a.err == b.err
}

func (a answer) copied() answer {
	for i, l := range a.lists {
		a.lists[i] = slices.Clone(l)
	}
	return a
}

func listOr(l poly, err api.Errno) answer { return answer{lists: [3]poly{l}, err: err} }

func list(l poly) answer { return listOr(l, api.OK) }

// gift is what the calls are handed, each as much of it as it takes.
type gift struct {
	a, b poly
	n    uint64
	way  int
}

type call func(f *upoly.Field, g gift) answer

// calls are all of a field.
func calls() map[string]call {
	return map[string]call{
		"P":    func(f *upoly.Field, g gift) answer { return answer{number: f.P()} },
		"Norm": func(f *upoly.Field, g gift) answer { return list(f.Norm(g.a)) },
		"Deg":  func(f *upoly.Field, g gift) answer { return answer{number: uint64(f.Deg(g.a))} },
		"Add":  func(f *upoly.Field, g gift) answer { return list(f.Add(g.a, g.b)) },
		"Sub":  func(f *upoly.Field, g gift) answer { return list(f.Sub(g.a, g.b)) },
		"Mul":  func(f *upoly.Field, g gift) answer { return listOr(f.Mul(g.a, g.b, g.way)) },
		"DivMod": func(f *upoly.Field, g gift) answer {
			q, r, err := f.DivMod(g.a, g.b)
			return answer{lists: [3]poly{q, r}, err: err}
		},
		"Gcd": func(f *upoly.Field, g gift) answer { return list(f.Gcd(g.a, g.b)) },
		"Ext": func(f *upoly.Field, g gift) answer {
			d, s, t := f.Ext(g.a, g.b)
			return answer{lists: [3]poly{d, s, t}}
		},
		"Eval":   func(f *upoly.Field, g gift) answer { return answer{number: f.Eval(g.a, g.n)} },
		"Derive": func(f *upoly.Field, g gift) answer { return list(f.Derive(g.a)) },
		"Monic":  func(f *upoly.Field, g gift) answer { return list(f.Monic(g.a)) },
		"PowMod": func(f *upoly.Field, g gift) answer { return listOr(f.PowMod(g.a, g.n, g.b)) },
	}
}

// gifts are such as calls take, and such as they do not.
func gifts() []gift {
	lists := []poly{
		nil, {}, {0}, {1}, {5}, {7}, {math.MaxUint64}, {1, 2}, {0, 1}, {3, 4, 5}, {6, 0, 1}, {1, 2, 0, math.MaxUint64}, {7, 14, greatest, 0}, {0, 0, 0, 8, 0}, {1, 2, 3, 4, 5, 6},
	}
	var all []gift
	for _, a := range lists {
		for _, b := range lists {
			for _, way := range []int{-1, 0, 1, 2, 3, 4, math.MinInt, math.MaxInt} {
				all = append(all, gift{a, b, []uint64{0, 1, 2, 7, 1000, greatest, math.MaxUint64}[len(all)%7], way})
			}
		}
	}
	return all
}

func fields(t *testing.T) []*upoly.Field {
	t.Helper()
	var all []*upoly.Field
	for _, p := range []uint64{2, 7, greatest} {
		all = append(all, fieldOf(t, p))
	}
	return all
}

func eachCall(t *testing.T, do func(name string, call call, f *upoly.Field, g gift)) {
	t.Helper()
	for name, call := range calls() {
		for _, f := range fields(t) {
			for _, g := range gifts() {
				do(name, call, f, g)
			}
		}
	}
}

func TestNilFields(t *testing.T) { // P9.1, R1
	var none *upoly.Field
	for name, call := range calls() {
		want := answer{}
		if slices.Contains([]string{"Mul", "DivMod", "PowMod"}, name) {
			want.err = api.ErrNil
		}
		for _, g := range gifts() {
			if got := call(none, g); !got.matches(want) {
				t.Errorf("%s of a nil field: got %v, want %v", name, got, want)
			}
		}
	}
}

func TestErrorsStandAlone(t *testing.T) { // R1
	known := map[string][]api.Errno{"Mul": {api.ErrArg}, "DivMod": {api.ErrDivZero}, "PowMod": {api.ErrDivZero}}
	eachCall(t, func(name string, call call, f *upoly.Field, g gift) {
		got := call(f, g)
		if got.err != api.OK && !got.matches(answer{err: got.err}) {
			t.Errorf("modulo %d: %s of %v: got %v beside an error", f.P(), name, g, got)
		}
		if got.err != api.OK && !slices.Contains(known[name], got.err) {
			t.Errorf("modulo %d: %s of %v: got the error %d", f.P(), name, g, int(got.err))
		}
	})
}

func TestAnswersAreCut(t *testing.T) { // P9.1 to P9.3: no coefficient 0 at the end, each below p
	eachCall(t, func(name string, call call, f *upoly.Field, g gift) {
		for _, l := range call(f, g).lists {
			if !slices.Equal(l, normOf(l, f.P())) {
				t.Errorf("modulo %d: %s of %v: got %d", f.P(), name, g, l)
			}
		}
	})
}

// behind is a list with something behind its length.
func behind(l poly) poly { return append(slices.Clone(l), 77, 1, 0, 5)[:len(l)] }

func whole(l poly) poly { return l[:cap(l)] }

func overwrite(l poly) {
	l = whole(l)
	for i := range l {
		l[i] = ^l[i]
	}
}

func TestNothingIsWrittenInto(t *testing.T) { // R2
	eachCall(t, func(name string, call call, f *upoly.Field, g gift) {
		want := call(f, g)
		handed := gift{behind(g.a), behind(g.b), g.n, g.way}
		a, b := slices.Clone(whole(handed.a)), slices.Clone(whole(handed.b))
		if got := call(f, handed); !got.matches(want) {
			t.Errorf("modulo %d: %s of %v: got %v, then %v", f.P(), name, g, want, got)
		}
		if !slices.Equal(whole(handed.a), a) || !slices.Equal(whole(handed.b), b) {
			t.Errorf("modulo %d: %s writes into %v", f.P(), name, g)
		}
	})
}

func TestAnswersAreTheCallers(t *testing.T) { // R2
	eachCall(t, func(name string, call call, f *upoly.Field, g gift) {
		handed := gift{slices.Clone(g.a), slices.Clone(g.b), g.n, g.way}
		first, second := call(f, handed), call(f, handed)
		want := first.copied()
		for i := range first.lists {
			overwrite(first.lists[i])
			for j := i + 1; j < len(first.lists); j++ {
				if !slices.Equal(first.lists[j], want.lists[j]) {
					t.Errorf("modulo %d: %s of %v answers two lists that share memory", f.P(), name, g)
				}
			}
		}
		if !slices.Equal(handed.a, g.a) || !slices.Equal(handed.b, g.b) || !second.matches(want) {
			t.Errorf("modulo %d: %s of %v answers what is another's", f.P(), name, g)
		}
		overwrite(handed.a)
		overwrite(handed.b)
		if !second.matches(want) {
			t.Errorf("modulo %d: %s answers a piece of %v", f.P(), name, g)
		}
		if third := call(f, g); !third.matches(want) {
			t.Errorf("modulo %d: %s of %v: got %v after its answer was written into, want %v", f.P(), name, g, third, want)
		}
	})
}

func TestLongListsAreLeftAlone(t *testing.T) { // R2: of lengths at which products go by halves and by primes
	s := source(41)
	f := fieldOf(t, 998244353)
	for _, n := range []int{70, 200, 3100} {
		for name, call := range calls() {
			g := gift{s.words(n), s.words(n - 5), 3, 0}
			handed := gift{behind(g.a), behind(g.b), g.n, g.way}
			a, b := slices.Clone(whole(handed.a)), slices.Clone(whole(handed.b))
			got := call(f, handed)
			want := got.copied()
			if !slices.Equal(whole(handed.a), a) || !slices.Equal(whole(handed.b), b) {
				t.Errorf("%s writes into lists of %d numbers", name, n)
			}
			overwrite(handed.a)
			overwrite(handed.b)
			if !got.matches(want) {
				t.Errorf("%s answers a piece of lists of %d numbers", name, n)
			}
		}
	}
}

func TestOneListTwice(t *testing.T) { // R2: both arguments are one, or pieces of one
	l := poly{1, 2, 3, 4}
	for _, f := range fields(t) {
		for name, call := range calls() {
			for way := range 4 {
				apart := call(f, gift{slices.Clone(l), slices.Clone(l), 5, way})
				if got := call(f, gift{l, l, 5, way}); !got.matches(apart) {
					t.Errorf("modulo %d: %s of one list twice: got %v, want %v", f.P(), name, got, apart)
				}
				apart = call(f, gift{slices.Clone(l[:3]), slices.Clone(l[1:]), 5, way})
				if got := call(f, gift{l[:3], l[1:], 5, way}); !got.matches(apart) {
					t.Errorf("modulo %d: %s of pieces of a list: got %v, want %v", f.P(), name, got, apart)
				}
			}
		}
	}
	if !slices.Equal(l, poly{1, 2, 3, 4}) {
		t.Errorf("%d is written into", l)
	}
}

func TestAnswersHangOnArgumentsAlone(t *testing.T) { // R3
	all := gifts()
	for name, call := range calls() {
		for _, f := range fields(t) {
			want := make([]answer, len(all))
			for i, g := range all {
				want[i] = call(f, g)
			}
			other := fieldOf(t, f.P())
			for i, g := range slices.Backward(all) {
				if got := call(f, g); !got.matches(want[i]) {
					t.Errorf("modulo %d: %s of %v: got %v, then %v", f.P(), name, g, want[i], got)
				}
				if got := call(other, g); !got.matches(want[i]) {
					t.Errorf("modulo %d: %s of %v: got %v, and %v of another field", f.P(), name, g, want[i], got)
				}
			}
		}
	}
}

func TestCallsBesideOthers(t *testing.T) { // R3
	s := source(42)
	f := fieldOf(t, greatest)
	g, h := gift{s.words(300), s.words(200), math.MaxUint64, 0}, gift{s.words(150), s.words(220), 77, 3}
	want := map[string]answer{}
	for name, call := range calls() {
		want[name+" of g"], want[name+" of h"] = call(f, g), call(f, h)
	}
	var group sync.WaitGroup
	for range 8 {
		group.Go(func() {
			for name, call := range calls() {
				if !call(f, g).matches(want[name+" of g"]) || !call(f, h).matches(want[name+" of h"]) {
					t.Errorf("%s beside others answers something else", name)
				}
			}
		})
	}
	group.Wait()
}
