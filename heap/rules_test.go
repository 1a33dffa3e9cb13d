package heap_test

import (
	"runtime"
	"slices"
	"sync"
	"testing"
	"weak"

	"vinculum/api"
	"vinculum/bigint"
	"vinculum/heap"
	"vinculum/mpoly"
)

// answer is what a call answers.
type answer struct {
	poly mpoly.Poly
	err  api.Errno
}

func (a answer) matches(b answer) bool { return a.poly.Is(b.poly) && a.err == b.err }

// gift is what the calls are handed.
type gift struct {
	r    api.Ring
	a, b polys
}

// first is the first one of a list.
func first(l polys) mpoly.Poly {
	if len(l) == 0 {
		return mpoly.Poly{}
	}
	return l[0]
}

type call func(g gift) answer

func polyOr(a mpoly.Poly, err api.Errno) answer { return answer{a, err} }

func calls() map[string]call {
	return map[string]call{
		"Mul": func(g gift) answer { return polyOr(heap.Mul(first(g.a), first(g.b))) },
		"Dot": func(g gift) answer { return polyOr(heap.Dot(g.a, g.b)) },
		"Sum": func(g gift) answer { return polyOr(heap.Sum(g.r, g.a)) },
	}
}

// gifts are such as calls take, and such as they do not.
func gifts(t *testing.T) []gift {
	t.Helper()
	s := source(61)
	all := []api.Ring{{}, ring(0, 4, 2), ring(9, 1, 2), {Vars: []string{"x", "x"}, Order: 1}, {Vars: make([]string, 9), Order: 1}, ring(0, 1, 0), ring(0, 1, 2), ring(0, 2, 2), ring(7, 3, 2), ring(greatest, 2, 3)}
	var gifts []gift
	for _, r := range all {
		for _, q := range all {
			any := func(r api.Ring, below int) mpoly.Poly { // the zero Poly of a ring that may not be
				a, _ := mpoly.Make(r, s.terms(s.below(5), len(r.Vars), below))
				return a
			}
			gifts = append(gifts, gift{r, polys{any(r, 3), any(r, 3)}, polys{any(r, 3), any(r, 3)}}, gift{r, polys{any(r, 3), any(q, 3)}, polys{any(r, 3), any(q, 3)}}, gift{r, polys{any(q, 3)}, polys{any(r, 3)}}, gift{q, polys{any(r, 3)}, nil}, gift{r, nil, nil},
				gift{r, polys{any(r, 3), any(r, mostExp)}, polys{any(r, 3), any(r, mostExp)}}, gift{r, polys{any(r, mostExp), any(q, 3), any(r, 3)}, polys{any(r, mostExp), any(r, 3), any(r, 3)}})
		}
	}
	return gifts
}

func eachCall(t *testing.T, do func(name string, call call, g gift)) {
	t.Helper()
	all := gifts(t)
	for name, call := range calls() {
		for _, g := range all {
			do(name, call, g)
		}
	}
}

func TestErrorsStandAlone(t *testing.T) { // R1
	eachCall(t, func(name string, call call, g gift) {
		got := call(g)
		if got.err != api.OK && !got.matches(answer{err: got.err}) {
			t.Errorf("%s over %v of %d and %d: got something beside the error %d", name, g.r, len(g.a), len(g.b), int(got.err))
		}
	})
}

// polyTerms are the terms of polynomials, written down.
func polyTerms(l polys) []mpoly.Term {
	var all []mpoly.Term
	for _, a := range l {
		for _, x := range a.Terms() {
			all = append(all, mpoly.Term{E: slices.Clone(x.E), C: bigint.From(x.C.Sign() < 0, x.C.Nat())})
		}
	}
	return all
}

func sameTerms(a, b []mpoly.Term) bool {
	return slices.EqualFunc(a, b, func(x, y mpoly.Term) bool { return slices.Equal(x.E, y.E) && x.C.Cmp(y.C) == 0 })
}

func TestNothingIsWrittenInto(t *testing.T) { // R2: nor what stands behind a list's length
	eachCall(t, func(name string, call call, g gift) {
		want := call(g)
		handed := gift{g.r, append(slices.Clone(g.a), mpoly.Poly{}, number(t, ring(7, 1, 1), 3))[:len(g.a)], append(slices.Clone(g.b), number(t, ring(0, 1, 1), 4))[:len(g.b)]}
		handed.r.Vars = append(slices.Clone(g.r.Vars), "more", "_")[:len(g.r.Vars)]
		vars, a, b := slices.Clone(handed.r.Vars[:len(g.r.Vars)+2]), slices.Clone(handed.a[:len(g.a)+2]), slices.Clone(handed.b[:len(g.b)+1])
		terms := polyTerms(append(slices.Clone(a), b...))
		if got := call(handed); !got.matches(want) {
			t.Errorf("%s over %v of %d and %d: got something else of the same", name, g.r, len(g.a), len(g.b))
		}
		if !slices.Equal(handed.r.Vars[:len(vars)], vars) || !slices.EqualFunc(handed.a[:len(a)], a, mpoly.Poly.Is) || !slices.EqualFunc(handed.b[:len(b)], b, mpoly.Poly.Is) {
			t.Errorf("%s over %v of %d and %d: writes into a list", name, g.r, len(g.a), len(g.b))
		}
		if !sameTerms(polyTerms(append(slices.Clone(a), b...)), terms) {
			t.Errorf("%s over %v of %d and %d: writes into a polynomial", name, g.r, len(g.a), len(g.b))
		}
	})
}

// overwrite writes into all that a polynomial hands out.
func overwrite(a mpoly.Poly) {
	for _, x := range a.Terms() {
		for i := range x.E {
			x.E[i] = ^x.E[i]
		}
	}
	names := a.Ring().Vars
	for i := range names {
		names[i] = "other"
	}
}

func TestWhatIsHandedInIsNotKept(t *testing.T) { // R2
	s := source(62)
	for _, r := range rings() {
		handed, a, b := r, polys{s.poly(t, r, 6, 3), s.poly(t, r, 4, 3)}, polys{s.poly(t, r, 6, 3), s.poly(t, r, 4, 3)}
		handed.Vars = slices.Clone(r.Vars)
		wantOfSum, wantOfDot := fine(t)(a[0].Add(a[1])), fine(t)(fine(t)(a[0].Mul(b[0])).Add(fine(t)(a[1].Mul(b[1]))))
		sum, none, dot := fine(t)(heap.Sum(handed, a)), fine(t)(heap.Sum(handed, nil)), fine(t)(heap.Dot(a, b))
		clear(a)
		clear(b)
		for i := range handed.Vars {
			handed.Vars[i] = "other"
		}
		wantSame(t, "Sum, whose lists were written into", sum, wantOfSum)
		wantSame(t, "Sum of none, whose names were written into", none, made(t, r))
		wantSame(t, "Dot, whose lists were written into", dot, wantOfDot)
	}
}

func TestAnswersAreTheCallers(t *testing.T) { // R2
	s := source(63)
	for _, r := range rings() {
		g := gift{r, polys{s.poly(t, r, 6, 3), s.poly(t, r, 4, 3)}, polys{s.poly(t, r, 6, 3), s.poly(t, r, 4, 3)}}
		kept := polyTerms(append(slices.Clone(g.a), g.b...))
		for name, call := range calls() {
			want, got := call(g), call(g)
			overwrite(got.poly)
			if again := call(g); !again.matches(want) || !got.matches(want) {
				t.Errorf("%s over %v answers something else, after its answer was written into", name, r)
			}
			if !sameTerms(polyTerms(append(slices.Clone(g.a), g.b...)), kept) {
				t.Errorf("%s over %v answers what is another's", name, r)
			}
		}
	}
}

func TestOneTwice(t *testing.T) { // R2: all are the same polynomial, and the same list
	s := source(64)
	for _, r := range rings() {
		l := s.terms(6, len(r.Vars), 3)
		a, b := polyOf(t, r, l), polyOf(t, r, l)
		one := polys{a, a, a}
		for name, call := range calls() {
			if got, want := call(gift{r, one, one}), call(gift{r, polys{a, b, a}, polys{b, a, b}}); !got.matches(want) {
				t.Errorf("%s over %v of one polynomial again and again: got something else", name, r)
			}
		}
		wantSame(t, "a polynomial that was handed in twice", a, b)
	}
}

func TestAnswersHangOnArgumentsAlone(t *testing.T) { // R3: again and again the same, whatever came ahead
	all := gifts(t)
	for name, call := range calls() {
		want := make([]answer, len(all))
		for i, g := range all {
			want[i] = call(g)
		}
		for i, g := range slices.Backward(all) {
			if got := call(g); !got.matches(want[i]) {
				t.Errorf("%s over %v of %d and %d: got something else", name, g.r, len(g.a), len(g.b))
			}
		}
	}
}

func TestCallsBesideOthers(t *testing.T) { // R3
	s := source(65)
	for _, p := range []uint64{0, 7} {
		r := ring(p, api.GrevLex, 3)
		g := gift{r, polys{s.poly(t, r, 30, 4), s.poly(t, r, 20, 4)}, polys{s.poly(t, r, 30, 4), s.poly(t, r, 20, 4)}}
		want := map[string]answer{}
		for name, call := range calls() {
			want[name] = call(g)
		}
		var group sync.WaitGroup
		for range 8 {
			group.Go(func() {
				for name, call := range calls() {
					if !call(g).matches(want[name]) {
						t.Errorf("%s beside others answers something else", name)
					}
				}
			})
		}
		group.Wait()
	}
}

func TestPopsHangOnCallsAlone(t *testing.T) { // R3: two heaps of the same calls pop the same, also of what stands beside one another
	for name, order := range orders() {
		s := source(66)
		one, other := heap.New(order), heap.New(order)
		for i := range 500 {
			if s.below(3) > 0 {
				x := thing{s.below(30), i}
				one.Push(x)
				other.Push(x)
				continue
			}
			x, is := one.Pop()
			if y, there := other.Pop(); x != y || is != there {
				t.Fatalf("%s: got %v, %t and %v, %t", name, x, is, y, there)
			}
		}
	}
}

func TestThingsAreNotWrittenInto(t *testing.T) { // R2: nor what stands behind a list's length
	h := heap.New(func(a, b list) bool { return slices.Compare(a, b) < 0 })
	var l []list
	for i := range 60 {
		x := list{i * 37 % 60, i, 99, 98}[:2]
		l = append(l, x)
		h.Push(x)
	}
	for i := range 60 {
		if x, _ := h.Pop(); x[0] != i || !slices.Equal(x[:4], list{i, l[x[1]][1], 99, 98}) {
			t.Errorf("the %dth: got %d", i, x[:4])
		}
	}
}

func TestWhatIsTakenOutIsNotKept(t *testing.T) { // a heap holds what is in it, and nothing else
	for _, order := range []func(a, b *thing) bool{func(a, b *thing) bool { return a.number < b.number }, func(a, b *thing) bool { return false }, func(a, b *thing) bool { return a.number%3 == b.number%3 && a.number < b.number }} {
		h := heap.New(order)
		var all []weak.Pointer[thing]
		for i := range 64 {
			x := &thing{i * 37 % 64, i}
			all = append(all, weak.Make(x))
			h.Push(x)
		}
		for left := 63; left >= 0; left-- {
			h.Pop()
			if left%9 > 0 {
				continue
			}
			runtime.GC()
			there := 0
			for _, x := range all {
				if x.Value() != nil {
					there++
				}
			}
			if there != left || h.Len() != left {
				t.Fatalf("%d things are kept, of %d", there, h.Len())
			}
		}
		runtime.KeepAlive(h)
	}
}
