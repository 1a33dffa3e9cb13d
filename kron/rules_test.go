package kron_test

import (
	"slices"
	"sync"
	"testing"

	"vinculum/api"
	"vinculum/bigint"
	"vinculum/kron"
	"vinculum/mpoly"
	"vinculum/upoly"
)

// answer is what a call answers.
type answer struct {
	base list
	flat upoly.Poly
	poly mpoly.Poly
	err  api.Errno
}

func (a answer) matches(b answer) bool {
	return slices.Equal(a.base, b.base) && slices.Equal(a.flat, b.flat) && a.poly.Is(b.poly) && a.err == b.err
}

// gift is what the calls are handed.
type gift struct {
	r    api.Ring
	a, b mpoly.Poly
	f    upoly.Poly
	base list
}

type call func(g gift) answer

func basesOr(base list, err api.Errno) answer   { return answer{base: base, err: err} }
func flatOr(f upoly.Poly, err api.Errno) answer { return answer{flat: f, err: err} }
func polyOr(a mpoly.Poly, err api.Errno) answer { return answer{poly: a, err: err} }
func (g gift) copied() gift                     { return gift{g.ring(), g.a, g.b, slices.Clone(g.f), slices.Clone(g.base)} }
func (g gift) ring() api.Ring                   { r := g.r; r.Vars = slices.Clone(r.Vars); return r }

func calls() map[string]call {
	return map[string]call{
		"Bases":  func(g gift) answer { return basesOr(kron.Bases(g.a, g.b)) },
		"Flat":   func(g gift) answer { return flatOr(kron.Flat(g.a, g.base)) },
		"Spread": func(g gift) answer { return polyOr(kron.Spread(g.r, g.f, g.base)) },
		"Mul":    func(g gift) answer { return polyOr(kron.Mul(g.a, g.b)) },
		"Box":    func(g gift) answer { return polyOr(kron.Box(g.a, g.b)) },
	}
}

// gifts are such as calls take, and such as they do not.
func gifts(t *testing.T) []gift {
	t.Helper()
	s := source(61)
	all := []api.Ring{{}, ring(7, 4, 2), ring(9, 1, 2), {P: 7, Vars: []string{"x", "x"}, Order: 1}, {Vars: make([]string, 9), Order: 1}, ring(0, 1, 2), ring(7, 1, 0), ring(7, 1, 2), ring(2, 2, 2), ring(7, 3, 2), ring(greatest, 2, 3)}
	bases := []list{nil, {1}, {1, 1}, {3, 3}, {4, 3, 2}, {3, 4, 3}, {0, 3}, {5, -1 << 63}, {1 << 62, 1 << 62}, {3, 1 << 40}, {3, 1 << 30, 3}, make(list, 9)}
	var gifts []gift
	for _, r := range all {
		for _, q := range all {
			any := func(r api.Ring, below int) mpoly.Poly { // the zero Poly of a ring that may not be
				a, _ := mpoly.Make(r, s.terms(s.below(5), len(r.Vars), below))
				return a
			}
			for _, base := range bases {
				f := s.flat(s.below(20), max(1, r.P))
				gifts = append(gifts, gift{r, any(r, 3), any(r, 3), f, base}, gift{r, any(r, 3), any(q, 3), f, base}, gift{r, any(r, mostExp), any(r, mostExp), f, base})
			}
		}
	}
	return append(gifts, gift{ring(7, 1, 2), mpoly.Poly{}, mpoly.Poly{}, make(upoly.Poly, mostPlaces+1), list{1, 1}})
}

func eachCall(t *testing.T, do func(name string, call call, g gift)) {
	t.Helper()
	all := gifts(t)
	for name, call := range calls() {
		for _, g := range all {
			do(name, call, g)
		}
	}
}

func TestErrorsStandAlone(t *testing.T) { // R1
	errs := map[string]map[api.Errno]int{}
	eachCall(t, func(name string, call call, g gift) {
		got := call(g)
		if got.err != api.OK && (!got.matches(answer{err: got.err}) || got.base != nil || got.flat != nil) {
			t.Errorf("%s over %v by %d: got something beside the error %d", name, g.r, g.base, int(got.err))
		}
		if errs[name] == nil {
			errs[name] = map[api.Errno]int{}
		}
		errs[name][got.err]++
	})
	for name, want := range map[string]int{"Bases": 2, "Flat": 3, "Spread": 5, "Mul": 4, "Box": 4} {
		if len(errs[name]) != want {
			t.Errorf("%s has the errors %v", name, errs[name])
		}
	}
}

// polyTerms are the terms of polynomials, written down.
func polyTerms(l ...mpoly.Poly) []mpoly.Term {
	var all []mpoly.Term
	for _, a := range l {
		for _, x := range a.Terms() {
			all = append(all, mpoly.Term{E: slices.Clone(x.E), C: bigint.From(x.C.Sign() < 0, x.C.Nat())})
		}
	}
	return all
}

func sameTerms(a, b []mpoly.Term) bool {
	return slices.EqualFunc(a, b, func(x, y mpoly.Term) bool { return slices.Equal(x.E, y.E) && x.C.Cmp(y.C) == 0 })
}

// behind is a list with something behind its length.
func behind[T any](l []T, more ...T) []T { return append(slices.Clone(l), more...)[:len(l)] }

func whole[T any](l []T) []T { return l[:cap(l)] }

func TestNothingIsWrittenInto(t *testing.T) { // R2: nor what stands behind a list's length
	eachCall(t, func(name string, call call, g gift) {
		want := call(g)
		handed := gift{g.r, g.a, g.b, behind(g.f, 7, 1, 0, 5), behind(g.base, 7, 1, 0, 5)}
		handed.r.Vars = behind(g.r.Vars, "more", "_")
		vars, f, base := slices.Clone(whole(handed.r.Vars)), slices.Clone(whole(handed.f)), slices.Clone(whole(handed.base))
		terms := polyTerms(g.a, g.b)
		if got := call(handed); !got.matches(want) {
			t.Errorf("%s over %v by %d: got something else of the same", name, g.r, g.base)
		}
		if !slices.Equal(whole(handed.r.Vars), vars) || !slices.Equal(whole(handed.f), f) || !slices.Equal(whole(handed.base), base) {
			t.Errorf("%s over %v by %d: writes into a list", name, g.r, g.base)
		}
		if !sameTerms(polyTerms(g.a, g.b), terms) {
			t.Errorf("%s over %v by %d: writes into a polynomial", name, g.r, g.base)
		}
	})
}

func TestWhatIsHandedInIsNotKept(t *testing.T) { // R2
	eachCall(t, func(name string, call call, g gift) {
		want, handed := call(g), g.copied()
		got := call(handed)
		for i := range handed.f {
			handed.f[i] = ^handed.f[i]
		}
		for i := range handed.base {
			handed.base[i] = ^handed.base[i]
		}
		for i := range handed.r.Vars {
			handed.r.Vars[i] = "other"
		}
		if !got.matches(want) {
			t.Errorf("%s over %v by %d: what was handed in is kept", name, g.r, g.base)
		}
	})
}

// overwrite writes into all that an answer hands out, to the end of its memory.
func overwrite(a answer) {
	for i := range whole(a.base) {
		whole(a.base)[i] = -77
	}
	for i := range whole(a.flat) {
		whole(a.flat)[i] = 77
	}
	for _, x := range a.poly.Terms() {
		for i := range x.E {
			x.E[i] = ^x.E[i]
		}
	}
	names := a.poly.Ring().Vars
	for i := range names {
		names[i] = "other"
	}
}

func TestAnswersAreTheCallers(t *testing.T) { // R2
	eachCall(t, func(name string, call call, g gift) {
		want, kept, terms := call(g), g.copied(), polyTerms(g.a, g.b)
		overwrite(call(g))
		if again := call(g); !again.matches(want) {
			t.Errorf("%s over %v by %d answers something else, after its answer was written into", name, g.r, g.base)
		}
		if !slices.Equal(g.f, kept.f) || !slices.Equal(g.base, kept.base) || !slices.Equal(g.r.Vars, kept.r.Vars) || !sameTerms(polyTerms(g.a, g.b), terms) {
			t.Errorf("%s over %v by %d answers what is another's", name, g.r, g.base)
		}
	})
}

func TestOneTwice(t *testing.T) { // R2: both are the same polynomial
	s := source(64)
	for _, r := range rings() {
		l := s.terms(6, len(r.Vars), 3)
		a, b := polyOf(t, r, l), polyOf(t, r, l)
		for name, call := range calls() {
			if got, want := call(gift{a: a, b: a}), call(gift{a: a, b: b}); !got.matches(want) {
				t.Errorf("%s over %v of one polynomial twice: got something else", name, r)
			}
		}
		wantSame(t, "a polynomial that was handed in twice", a, b)
	}
}

func TestAnswersHangOnArgumentsAlone(t *testing.T) { // R3: again and again the same, whatever came ahead
	all := gifts(t)
	for name, call := range calls() {
		want := make([]answer, len(all))
		for i, g := range all {
			want[i] = call(g)
		}
		for i, g := range slices.Backward(all) {
			if got := call(g); !got.matches(want[i]) {
				t.Errorf("%s over %v by %d: got something else", name, g.r, g.base)
			}
		}
	}
}

func TestCallsBesideOthers(t *testing.T) { // R3
	s := source(65)
	for _, p := range []uint64{2, greatest} {
		r := ring(p, api.GrevLex, 3)
		g := gift{r, s.poly(t, r, 30, 8), s.poly(t, r, 20, 8), s.flat(512, p), list{8, 8, 8}}
		want := map[string]answer{}
		for name, call := range calls() {
			want[name] = call(g)
			if want[name].err != api.OK {
				t.Errorf("%s: error %d", name, int(want[name].err))
			}
		}
		var group sync.WaitGroup
		for range 8 {
			group.Go(func() {
				for name, call := range calls() {
					if !call(g).matches(want[name]) {
						t.Errorf("%s beside others answers something else", name)
					}
				}
			})
		}
		group.Wait()
	}
}
