package calc_test

import (
	"slices"
	"sync"
	"testing"

	"vinculum/api"
	"vinculum/bigint"
	"vinculum/calc"
	"vinculum/mpoly"
)

// answer is what a call answers.
type answer struct {
	poly   mpoly.Poly
	polys  []mpoly.Poly
	number bigint.Int
	err    api.Errno
}

func (a answer) matches(b answer) bool {
	return a.poly.Is(b.poly) && slices.EqualFunc(a.polys, b.polys, mpoly.Poly.Is) && a.number.Cmp(b.number) == 0 && a.err == b.err
}

// gift is what the calls are handed.
type gift struct {
	r       api.Ring
	v       int
	a, b    mpoly.Poly
	numbers []bigint.Int
	polys   []mpoly.Poly
}

type call func(g gift) answer

func polyOr(a mpoly.Poly, err api.Errno) answer { return answer{poly: a, err: err} }

func numberOr(x bigint.Int, err api.Errno) answer { return answer{number: x, err: err} }

func polysOr(l []mpoly.Poly, err api.Errno) answer { return answer{polys: l, err: err} }

func calls() map[string]call {
	return map[string]call{
		"Eval":      func(g gift) answer { return numberOr(calc.Eval(g.a, g.numbers)) },
		"Subst":     func(g gift) answer { return polyOr(calc.Subst(g.a, g.v, g.b)) },
		"Derive":    func(g gift) answer { return polyOr(calc.Derive(g.a, g.v)) },
		"Content":   func(g gift) answer { return answer{number: calc.Content(g.a)} },
		"Primitive": func(g gift) answer { return answer{poly: calc.Primitive(g.a)} },
		"To":        func(g gift) answer { return polyOr(calc.To(g.a, g.r)) },
		"Parts":     func(g gift) answer { return polysOr(calc.Parts(g.a, g.v)) },
		"Join":      func(g gift) answer { return polyOr(calc.Join(g.r, g.v, g.polys)) },
	}
}

// gifts are such as calls take, and such as they do not.
func gifts(t *testing.T) []gift {
	t.Helper()
	s := source(61)
	all := []api.Ring{{}, ring(0, 4, 2), ring(9, 1, 2), {Vars: []string{"x", "x"}, Order: 1}, {Vars: make([]string, 9), Order: 1}, ring(0, 1, 0), ring(0, 1, 2), ring(0, 2, 2), ring(7, 3, 2), ring(greatest, 2, 3)}
	var gifts []gift
	for _, r := range all {
		for _, q := range all {
			for v := -1; v <= 3; v++ {
				a, _ := mpoly.Make(q, s.terms(s.below(5), len(q.Vars), 4))
				b, _ := mpoly.Make(r, s.terms(s.below(3), len(r.Vars), 3))
				high, _ := mpoly.Make(q, s.terms(3, len(q.Vars), 5000))
				parts, _ := calc.Parts(b, v)
				gifts = append(gifts, gift{r, v, a, b, s.numbers(len(q.Vars)), parts}, gift{r, v, b, a, s.numbers(s.below(4)), []mpoly.Poly{a, b}}, gift{q, v, a, a, s.numbers(len(q.Vars)), parts})
				if v == 0 {
					gifts = append(gifts, gift{r, v, high, b, append(s.numbers(2), bitsOf(500)), []mpoly.Poly{b, {}, high}}, gift{q, v, a, high, nil, nil})
				}
			}
		}
	}
	return gifts
}

func eachCall(t *testing.T, do func(name string, call call, g gift)) {
	t.Helper()
	all := gifts(t)
	for name, call := range calls() {
		for _, g := range all {
			do(name, call, g)
		}
	}
}

func TestErrorsStandAlone(t *testing.T) { // R1
	eachCall(t, func(name string, call call, g gift) {
		got := call(g)
		if got.err != api.OK && !got.matches(answer{err: got.err}) {
			t.Errorf("%s over %v and %v, place %d: got something beside the error %d", name, g.a.Ring(), g.r, g.v, int(got.err))
		}
	})
}

func TestNothingIsWrittenInto(t *testing.T) { // R2: nor what stands behind a list's length
	eachCall(t, func(name string, call call, g gift) {
		want := call(g)
		handed := g
		handed.r.Vars = append(slices.Clone(g.r.Vars), "more", "_")[:len(g.r.Vars)]
		handed.numbers = append(slices.Clone(g.numbers), bigint.Of(9), bigint.Of(-7))[:len(g.numbers)]
		handed.polys = append(slices.Clone(g.polys), g.a, g.b)[:len(g.polys)]
		vars, numbers, polys := slices.Clone(handed.r.Vars[:len(g.r.Vars)+2]), slices.Clone(handed.numbers[:len(g.numbers)+2]), slices.Clone(handed.polys[:len(g.polys)+2])
		a, b := polyTerms(g.a), polyTerms(g.b)
		if got := call(handed); !got.matches(want) {
			t.Errorf("%s over %v and %v, place %d: got something else of the same", name, g.a.Ring(), g.r, g.v)
		}
		sameNumbers := slices.EqualFunc(handed.numbers[:len(numbers)], numbers, func(x, y bigint.Int) bool { return x.Cmp(y) == 0 })
		if !slices.Equal(handed.r.Vars[:len(vars)], vars) || !sameNumbers || !slices.EqualFunc(handed.polys[:len(polys)], polys, mpoly.Poly.Is) {
			t.Errorf("%s over %v and %v, place %d: writes into a list", name, g.a.Ring(), g.r, g.v)
		}
		if !sameTerms(g.a.Terms(), a) || !sameTerms(g.b.Terms(), b) {
			t.Errorf("%s over %v and %v, place %d: writes into a polynomial", name, g.a.Ring(), g.r, g.v)
		}
	})
}

// polyTerms are a polynomial's, written down.
func polyTerms(a mpoly.Poly) []mpoly.Term {
	var l []mpoly.Term
	for _, x := range a.Terms() {
		l = append(l, mpoly.Term{E: slices.Clone(x.E), C: bigint.From(x.C.Sign() < 0, x.C.Nat())})
	}
	return l
}

func sameTerms(a, b []mpoly.Term) bool {
	return slices.EqualFunc(a, b, func(x, y mpoly.Term) bool { return slices.Equal(x.E, y.E) && x.C.Cmp(y.C) == 0 })
}

func TestWhatIsHandedInIsNotKept(t *testing.T) { // R2
	s := source(62)
	for _, r := range rings() {
		for v := range r.Vars {
			a := polyOf(t, r, without(s.terms(6, len(r.Vars), 3), v))
			handed, l := r, []mpoly.Poly{a, made(t, r), a}
			handed.Vars = slices.Clone(r.Vars)
			want := fine(t)(calc.Join(r, v, []mpoly.Poly{a, made(t, r), a}))
			got, to := fine(t)(calc.Join(handed, v, l)), fine(t)(calc.To(a, handed))
			clear(l)
			for i := range handed.Vars {
				handed.Vars[i] = "other"
			}
			wantSame(t, "Join, whose lists were written into", got, want)
			wantSame(t, "To, whose names were written into", to, a)
		}
	}
}

func TestAnswersAreTheCallers(t *testing.T) { // R2: of each call that answers a list, or a polynomial
	s := source(63)
	for _, r := range rings() {
		for v := range r.Vars {
			a, b := s.poly(t, r, 8, 4), s.poly(t, r, 2, 3)
			parts, _ := calc.Parts(a, v)
			g := gift{r, v, a, b, s.numbers(len(r.Vars)), parts}
			keptA, keptB := polyTerms(a), polyTerms(b)
			for name, call := range calls() {
				want, got := call(g), call(g)
				overwrite(got.poly)
				for _, part := range got.polys {
					overwrite(part)
				}
				clear(got.polys[:cap(got.polys)])
				for i := range got.number.Nat() {
					got.number.Nat()[i] = 99
				}
				if again := call(g); !again.matches(want) || !got.poly.Is(want.poly) || got.number.Cmp(want.number) != 0 {
					t.Errorf("%s over %v answers something else, after its answer was written into", name, r)
				}
				if !sameTerms(a.Terms(), keptA) || !sameTerms(b.Terms(), keptB) {
					t.Errorf("%s over %v answers what is another's", name, r)
				}
			}
		}
	}
}

// overwrite writes into all that a polynomial hands out.
func overwrite(a mpoly.Poly) {
	for _, x := range a.Terms() {
		for i := range x.E {
			x.E[i] = ^x.E[i]
		}
	}
	names := a.Ring().Vars
	for i := range names {
		names[i] = "other"
	}
}

func TestAnswersHangOnArgumentsAlone(t *testing.T) { // R3: again and again the same, whatever came ahead
	all := gifts(t)
	for name, call := range calls() {
		want := make([]answer, len(all))
		for i, g := range all {
			want[i] = call(g)
		}
		for i, g := range slices.Backward(all) {
			if got := call(g); !got.matches(want[i]) {
				t.Errorf("%s over %v and %v, place %d: got something else", name, g.a.Ring(), g.r, g.v)
			}
		}
	}
}

func TestCallsBesideOthers(t *testing.T) { // R3
	s := source(64)
	for _, p := range []uint64{0, 7} {
		r := ring(p, api.GrevLex, 3)
		a := s.poly(t, r, 30, 4)
		parts, _ := calc.Parts(a, 1)
		g := gift{r, 1, a, s.poly(t, r, 3, 4), s.numbers(3), parts}
		want := map[string]answer{}
		for name, call := range calls() {
			want[name] = call(g)
		}
		var group sync.WaitGroup
		for range 8 {
			group.Go(func() {
				for name, call := range calls() {
					if !call(g).matches(want[name]) {
						t.Errorf("%s beside others answers something else", name)
					}
				}
			})
		}
		group.Wait()
	}
}
