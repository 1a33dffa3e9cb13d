package quot_test

import (
	"slices"
	"sync"
	"testing"

	"vinculum/api"
	"vinculum/bigint"
	"vinculum/mpoly"
	"vinculum/quot"
)

// answer is what a call answers.
type answer struct {
	number int
	is     bool
	polys  [2]mpoly.Poly
	err    api.Errno
}

func (a answer) matches(b answer) bool {
	return a.number == b.number && a.is == b.is && a.polys[0].Is(b.polys[0]) && a.polys[1].Is(b.polys[1]) && a.err == b.err
}

type call func(a, b mpoly.Poly) answer

func calls() map[string]call {
	return map[string]call{
		"DivMod": func(a, b mpoly.Poly) answer {
			q, left, err := quot.DivMod(a, b)
			return answer{polys: [2]mpoly.Poly{q, left}, err: err}
		},
		"Div": func(a, b mpoly.Poly) answer {
			q, err := quot.Div(a, b)
			return answer{polys: [2]mpoly.Poly{q}, err: err}
		},
		"Divides": func(a, b mpoly.Poly) answer {
			is, err := quot.Divides(a, b)
			return answer{is: is, err: err}
		},
		"Times": func(a, b mpoly.Poly) answer {
			n, left, err := quot.Times(a, b)
			return answer{number: n, polys: [2]mpoly.Poly{left}, err: err}
		},
	}
}

// gifts are pairs such as calls take, and such as they do not.
func gifts(t *testing.T) [][2]mpoly.Poly {
	t.Helper()
	s := source(31)
	all := []api.Ring{{}, ring(0, 1, 0), ring(0, 1, 2), ring(0, 2, 2), ring(0, 3, 3), ring(7, 1, 0), ring(7, 1, 2), ring(2, 2, 2), ring(greatest, 2, 3)}
	var l [][2]mpoly.Poly
	for _, r := range all {
		for _, q := range append(all, r, r, r, r) {
			any := func(r api.Ring, n, below int) mpoly.Poly { // the zero Poly of a ring that may not be
				a, _ := mpoly.Make(r, s.terms(s.below(n+1), len(r.Vars), below))
				return a
			}
			l = append(l, [2]mpoly.Poly{any(r, 9, 4), any(q, 3, 3)}, [2]mpoly.Poly{any(r, 9, 4), any(r, 2, 2)}, [2]mpoly.Poly{any(r, 4, mostExp), any(q, 3, mostExp/4)})
			a, b := any(r, 4, 3), any(r, 3, 2)
			if product, err := a.Mul(b); err == api.OK {
				l = append(l, [2]mpoly.Poly{product, b}, [2]mpoly.Poly{a, product}, [2]mpoly.Poly{product, product})
			}
		}
	}
	r := ring(0, api.Lex, 2)
	high := made(t, r, list{1, 1, 0}, list{1, 0, mostExp})
	return append(l, [2]mpoly.Poly{made(t, r, list{1, 2, 0}), high}, [2]mpoly.Poly{high, made(t, r, list{1, 2, 0})})
}

func eachCall(t *testing.T, do func(name string, call call, a, b mpoly.Poly)) {
	t.Helper()
	all := gifts(t)
	for name, call := range calls() {
		for _, g := range all {
			do(name, call, g[0], g[1])
		}
	}
}

func TestErrorsStandAlone(t *testing.T) { // R1
	errs := map[string]map[api.Errno]int{}
	eachCall(t, func(name string, call call, a, b mpoly.Poly) {
		got := call(a, b)
		if got.err != api.OK && !got.matches(answer{err: got.err}) {
			t.Errorf("%s over %v: got something beside the error %d", name, a.Ring(), int(got.err))
		}
		if errs[name] == nil {
			errs[name] = map[api.Errno]int{}
		}
		errs[name][got.err]++
	})
	for name, want := range map[string]int{"DivMod": 4, "Div": 5, "Divides": 4, "Times": 5} {
		if len(errs[name]) != want {
			t.Errorf("%s has the errors %v", name, errs[name])
		}
	}
}

// polyTerms are the terms of polynomials, written down.
func polyTerms(l ...mpoly.Poly) []mpoly.Term {
	var all []mpoly.Term
	for _, a := range l {
		for _, x := range a.Terms() {
			all = append(all, mpoly.Term{E: slices.Clone(x.E), C: bigint.From(x.C.Sign() < 0, x.C.Nat())})
		}
	}
	return all
}

func sameTerms(a, b []mpoly.Term) bool {
	return slices.EqualFunc(a, b, func(x, y mpoly.Term) bool { return slices.Equal(x.E, y.E) && x.C.Cmp(y.C) == 0 })
}

func TestNothingIsWrittenInto(t *testing.T) { // R2
	eachCall(t, func(name string, call call, a, b mpoly.Poly) {
		terms, rings := polyTerms(a, b), []api.Ring{a.Ring(), b.Ring()}
		call(a, b)
		if !sameTerms(polyTerms(a, b), terms) || !mpoly.Same(a.Ring(), rings[0]) || !mpoly.Same(b.Ring(), rings[1]) {
			t.Errorf("%s over %v: writes into a polynomial", name, a.Ring())
		}
	})
}

// overwrite writes into all that an answer hands out.
func overwrite(a answer) {
	for _, p := range a.polys {
		for _, x := range p.Terms() {
			for i := range x.E {
				x.E[i] = ^x.E[i]
			}
			for i, words := 0, x.C.Nat(); i < len(words); i++ {
				words[i] = 77
			}
		}
		names := p.Ring().Vars
		for i := range names {
			names[i] = "other"
		}
	}
}

func TestAnswersAreTheCallers(t *testing.T) { // R2
	eachCall(t, func(name string, call call, a, b mpoly.Poly) {
		want, terms := call(a, b), polyTerms(a, b)
		overwrite(call(a, b))
		if again := call(a, b); !again.matches(want) {
			t.Errorf("%s over %v answers something else, after its answer was written into", name, a.Ring())
		}
		if !sameTerms(polyTerms(a, b), terms) {
			t.Errorf("%s over %v answers what is another's", name, a.Ring())
		}
	})
}

func TestAnswersHangOnArgumentsAlone(t *testing.T) { // R3: again and again the same, whatever came ahead
	all := gifts(t)
	for name, call := range calls() {
		want := make([]answer, len(all))
		for i, g := range all {
			want[i] = call(g[0], g[1])
		}
		for i, g := range slices.Backward(all) {
			if got := call(g[0], g[1]); !got.matches(want[i]) {
				t.Errorf("%s over %v: got something else", name, g[0].Ring())
			}
		}
	}
}

func TestCallsBesideOthers(t *testing.T) { // R3
	s := source(35)
	for _, r := range []api.Ring{ring(0, api.GrevLex, 3), ring(greatest, api.GrevLex, 3)} {
		b := monic(t, s.poly(t, r, 6, 3))
		a := fine(t)(fine(t)(b.Pow(3)).Mul(s.poly(t, r, 20, 4)))
		want := map[string]answer{}
		for name, call := range calls() {
			want[name] = call(a, b)
		}
		var group sync.WaitGroup
		for range 8 {
			group.Go(func() {
				for name, call := range calls() {
					if !call(a, b).matches(want[name]) {
						t.Errorf("%s beside others answers something else", name)
					}
				}
			})
		}
		group.Wait()
	}
}
