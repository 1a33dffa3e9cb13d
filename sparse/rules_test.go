package sparse_test

import (
	"math"
	"slices"
	"sync"
	"testing"

	"vinculum/api"
	"vinculum/bigint"
	"vinculum/mpoly"
	"vinculum/sparse"
)

// answer is what a call answers.
type answer struct {
	points []row
	values row
	poly   mpoly.Poly
	exps   list
	number uint64
	err    api.Errno
}

func (a answer) matches(b answer) bool {
	return slices.EqualFunc(a.points, b.points, slices.Equal) && slices.Equal(a.values, b.values) && a.poly.Is(b.poly) && slices.Equal(a.exps, b.exps) && a.number == b.number && a.err == b.err
}

// gift is what the calls are handed, each as much of it as it takes.
type gift struct {
	r             api.Ring
	a             mpoly.Poly
	vars, many    int
	values, seeds row
	e             list
	n             uint64
}

func (g gift) copied() gift {
	g.r.Vars, g.values, g.seeds, g.e = slices.Clone(g.r.Vars), slices.Clone(g.values), slices.Clone(g.seeds), slices.Clone(g.e)
	return g
}

func (g gift) is(h gift) bool {
	return slices.Equal(g.r.Vars, h.r.Vars) && slices.Equal(g.values, h.values) && slices.Equal(g.seeds, h.seeds) && slices.Equal(g.e, h.e)
}

type call func(g gift) answer

func calls() map[string]call {
	return map[string]call{
		"Points": func(g gift) answer {
			l, err := sparse.Points(g.r.P, g.vars, g.many)
			return answer{points: l, err: err}
		},
		"Ask": func(g gift) answer {
			l, err := sparse.Ask(g.a, g.many)
			return answer{values: l, err: err}
		},
		"Find": func(g gift) answer {
			a, err := sparse.Find(g.r, g.values, g.seeds)
			return answer{poly: a, err: err}
		},
		"Code": func(g gift) answer {
			n, err := sparse.Code(g.e, g.n)
			return answer{number: n, err: err}
		},
		"Exps": func(g gift) answer {
			e, err := sparse.Exps(g.n, g.vars)
			return answer{exps: e, err: err}
		},
	}
}

// gifts are such as calls take, and such as they do not.
func gifts(t *testing.T) []gift {
	t.Helper()
	s := source(51)
	rings := []api.Ring{{}, ring(7, 4, 2), ring(9, 1, 2), {P: 7, Vars: []string{"x", "x"}, Order: 1}, {Vars: make([]string, 9), Order: 1}, ring(0, 1, 2), ring(7, 1, 0), ring(7, 1, 2), ring(2, 2, 2), ring(97, 3, 3), ring(greatest, 2, 8)}
	vars := list{0, 1, 2, 8, -1, 9, math.MinInt, math.MaxInt}
	many := list{0, 1, 4, 7, mostPoints, -1, mostPoints + 1, math.MinInt, math.MaxInt}
	exps := []list{nil, {0}, {2, 1}, {1, 0, 2}, {62}, {64}, {-1, 3}, {mostExp + 1}, {0, mostExp}, make(list, 8), make(list, 9)}
	words := row{0, 1, 2, 12, 13, 175, 1 << 63, math.MaxUint64}
	var all []gift
	for _, r := range rings {
		for range 60 {
			a, _ := mpoly.Make(r, s.terms(s.below(4), len(r.Vars), 3)) // the zero Poly of a ring that may not be
			values, err := sparse.Ask(a, 2*a.Len()+2*s.below(3))
			switch {
			case err != api.OK || s.below(3) == 0:
				values = s.words([]int{0, 1, 2, 4, 9, 30, 1001, 1002}[s.below(8)])
			case s.below(3) == 0:
				values = values[:s.below(len(values)+1)]
			}
			all = append(all, gift{r, a, vars[s.below(len(vars))], many[s.below(len(many))], values, s.words(30 * s.below(2)), exps[s.below(len(exps))], words[s.below(len(words))]})
		}
	}
	return all
}

func eachCall(t *testing.T, do func(name string, call call, g gift)) {
	t.Helper()
	all := gifts(t)
	for name, call := range calls() {
		for _, g := range all {
			do(name, call, g)
		}
	}
}

func TestErrorsStandAlone(t *testing.T) { // R1
	errs := map[string]map[api.Errno]int{}
	eachCall(t, func(name string, call call, g gift) {
		got := call(g)
		if got.err != api.OK && (!got.matches(answer{err: got.err}) || len(got.points)+len(got.values)+len(got.exps) > 0) {
			t.Errorf("%s over %v: got something beside the error %d", name, g.r, int(got.err))
		}
		if errs[name] == nil {
			errs[name] = map[api.Errno]int{}
		}
		errs[name][got.err]++
	})
	for name, want := range map[string]int{"Points": 3, "Ask": 2, "Find": 7, "Code": 3, "Exps": 3} {
		if len(errs[name]) != want {
			t.Errorf("%s has the errors %v", name, errs[name])
		}
	}
}

// termsOf are those of a polynomial, written down.
func termsOf(a mpoly.Poly) []mpoly.Term {
	var l []mpoly.Term
	for _, x := range a.Terms() {
		l = append(l, mpoly.Term{E: slices.Clone(x.E), C: bigint.From(x.C.Sign() < 0, x.C.Nat())})
	}
	return l
}

func sameTerms(a, b []mpoly.Term) bool {
	return slices.EqualFunc(a, b, func(x, y mpoly.Term) bool { return slices.Equal(x.E, y.E) && x.C.Cmp(y.C) == 0 })
}

// behind is a list with something behind its length.
func behind[T any](l []T, more ...T) []T { return append(slices.Clone(l), more...)[:len(l)] }

func whole[T any](l []T) []T { return l[:cap(l)] }

// wholly is all the memory that a gift hands in.
func (g gift) wholly() gift {
	g.r.Vars, g.values, g.seeds, g.e = whole(g.r.Vars), whole(g.values), whole(g.seeds), whole(g.e)
	return g
}

func TestNothingIsWrittenInto(t *testing.T) { // R2: nor what stands behind a list's length
	eachCall(t, func(name string, call call, g gift) {
		terms, handed := termsOf(g.a), g
		handed.r.Vars, handed.values, handed.seeds, handed.e = behind(g.r.Vars, "more", "_"), behind(g.values, 7, 0, 5), behind(g.seeds, 7, 0, 5), behind(g.e, 7, 0, 5)
		kept := handed.wholly().copied()
		got := call(handed)
		if !handed.wholly().is(kept) || !sameTerms(termsOf(g.a), terms) {
			t.Errorf("%s over %v: writes into what it is handed", name, g.r)
		}
		if !call(g).matches(got) {
			t.Errorf("%s over %v: got something else of the same", name, g.r)
		}
	})
}

// overwrite writes into the lists of a gift.
func (g gift) overwrite() {
	for i := range g.r.Vars {
		g.r.Vars[i] = "other"
	}
	for _, l := range []row{g.values, g.seeds} {
		for i := range l {
			l[i] = ^l[i]
		}
	}
	for i := range g.e {
		g.e[i] = ^g.e[i]
	}
}

func TestWhatIsHandedInIsNotKept(t *testing.T) { // R2
	eachCall(t, func(name string, call call, g gift) {
		handed := g.copied()
		got := call(handed)
		handed.overwrite()
		if !got.matches(call(g)) {
			t.Errorf("%s over %v: what was handed in is kept", name, g.r)
		}
	})
}

// overwrite writes into all that an answer hands out, to the end of its memory.
func (a answer) overwrite() {
	for _, l := range append(slices.Clone(a.points), a.values) {
		for i := range whole(l) {
			whole(l)[i] = 77
		}
	}
	for i := range whole(a.points) {
		whole(a.points)[i] = nil
	}
	for i := range whole(a.exps) {
		whole(a.exps)[i] = -77
	}
	for _, x := range a.poly.Terms() {
		for i := range x.E {
			x.E[i] = ^x.E[i]
		}
	}
	names := a.poly.Ring().Vars
	for i := range names {
		names[i] = "other"
	}
}

func TestAnswersAreTheCallers(t *testing.T) { // R2
	eachCall(t, func(name string, call call, g gift) {
		kept, terms := g.copied(), termsOf(g.a)
		want := call(g)
		call(g).overwrite()
		if again := call(g); !again.matches(want) {
			t.Errorf("%s over %v answers something else, after its answer was written into", name, g.r)
		}
		if !g.is(kept) || !sameTerms(termsOf(g.a), terms) {
			t.Errorf("%s over %v answers what is another's", name, g.r)
		}
	})
}

func TestPointsShareNoMemory(t *testing.T) { // R2: nor what stands behind their length
	for vars := range mostVars + 1 {
		points, err := sparse.Points(97, vars, 30)
		if err != api.OK {
			t.Fatalf("Points: error %d", int(err))
		}
		for i, point := range points {
			if !slices.Equal(point, pointOf(97, vars, i)) {
				t.Errorf("the point %d of %d variables was written into with another one", i, vars)
			}
			for v := range whole(point) {
				whole(point)[v] = 77
			}
		}
	}
}

func TestOneListTwice(t *testing.T) { // R2: the values are the seeds
	r := ring(97, api.Lex, 2)
	values := row{4, 9, 21, 51}
	want, wantErr := sparse.Find(r, slices.Clone(values), slices.Clone(values))
	if got, err := sparse.Find(r, values, values); !got.Is(want) || err != wantErr || !slices.Equal(values, row{4, 9, 21, 51}) {
		t.Errorf("Find of one list twice: got %d terms, error %d, and the list %d", got.Len(), int(err), values)
	}
}

func TestAnswersHangOnArgumentsAlone(t *testing.T) { // R3: again and again the same, whatever came ahead
	all := gifts(t)
	for name, call := range calls() {
		want := make([]answer, len(all))
		for i, g := range all {
			want[i] = call(g)
		}
		for i, g := range slices.Backward(all) {
			if got := call(g); !got.matches(want[i]) {
				t.Errorf("%s over %v: got something else", name, g.r)
			}
		}
	}
}

func TestCallsBesideOthers(t *testing.T) { // R3
	s := source(52)
	r := ring(greatest, api.GrevLex, 3)
	a := s.ofCodes(t, r, s.codes(r.P, 3, 20))
	g := gift{r, a, 3, 40, asked(t, a, 40), seeds(), list{5, 3}, 2592}
	want := map[string]answer{}
	for name, call := range calls() {
		want[name] = call(g)
		if want[name].err != api.OK {
			t.Errorf("%s: error %d", name, int(want[name].err))
		}
	}
	var group sync.WaitGroup
	for range 8 {
		group.Go(func() {
			for name, call := range calls() {
				if !call(g).matches(want[name]) {
					t.Errorf("%s beside others answers something else", name)
				}
			}
		})
	}
	group.Wait()
}
