package mpoly_test

import (
	"math"
	"slices"
	"sync"
	"testing"

	"vinculum/api"
	"vinculum/bigint"
	"vinculum/mpoly"
)

// answer is what a call answers.
type answer struct {
	poly   mpoly.Poly
	ring   api.Ring
	terms  []mpoly.Term
	number bigint.Int
	n      int
	is     bool
	err    api.Errno
}

func sameTerms(a, b []mpoly.Term) bool {
	return slices.EqualFunc(a, b, func(x, y mpoly.Term) bool { return slices.Equal(x.E, y.E) && x.C.Cmp(y.C) == 0 })
}

func (a answer) matches(b answer) bool {
	return a.poly.Is(b.poly) && mpoly.Same(a.ring, b.ring) && sameTerms(a.terms, b.terms) && a.number.Cmp(b.number) == 0 && a.n == b.n && a.is == b.is && a.err == b.err
}

// gift is what the calls are handed.
type gift struct {
	r    api.Ring
	l    []mpoly.Term
	a, b mpoly.Poly
	n    int
}

// term is the first one of the list.
func (g gift) term() mpoly.Term {
	if len(g.l) == 0 {
		return mpoly.Term{}
	}
	return g.l[0]
}

type call func(g gift) answer

func polyOr(a mpoly.Poly, err api.Errno) answer { return answer{poly: a, err: err} }

func calls() map[string]call {
	return map[string]call{
		"Check": func(g gift) answer { return answer{err: mpoly.Check(g.r)} },
		"Same":  func(g gift) answer { return answer{is: mpoly.Same(g.r, g.a.Ring())} },
		"Make":  func(g gift) answer { return polyOr(mpoly.Make(g.r, g.l)) },
		"Ring":  func(g gift) answer { return answer{ring: g.a.Ring()} },
		"Terms": func(g gift) answer { return answer{terms: g.a.Terms()} },
		"Len":   func(g gift) answer { return answer{n: g.a.Len()} },
		"At":    func(g gift) answer { return answer{number: g.a.At(g.term().E)} },
		"Deg":   func(g gift) answer { return answer{n: g.a.Deg()} },
		"In":    func(g gift) answer { return answer{n: g.a.In(g.n)} },
		"Is":    func(g gift) answer { return answer{is: g.a.Is(g.b)} },
		"Add":   func(g gift) answer { return polyOr(g.a.Add(g.b)) },
		"Sub":   func(g gift) answer { return polyOr(g.a.Sub(g.b)) },
		"Neg":   func(g gift) answer { return answer{poly: g.a.Neg()} },
		"Scale": func(g gift) answer { return polyOr(g.a.Scale(g.term())) },
		"Mul":   func(g gift) answer { return polyOr(g.a.Mul(g.b)) },
		"Pow":   func(g gift) answer { return polyOr(g.a.Pow(g.n)) },
	}
}

// gifts are such as calls take, and such as they do not.
func gifts(t *testing.T) []gift {
	t.Helper()
	s := source(41)
	all := []api.Ring{{}, ring(0, 4, 2), ring(9, 1, 2), {Vars: []string{"x", "x"}, Order: 1}, {Vars: make([]string, 9), Order: 1}, ring(0, 1, 0), ring(0, 1, 2), ring(7, 3, 2), ring(greatest, 2, 3)}
	lists := [][]mpoly.Term{nil, {}, {{}}, {{E: list{}, C: bigint.Of(4)}}, termsOf(list{1, 0, 0}), termsOf(list{2, 1, 0}, list{3, 0, 0}, list{-2, 1, 0}), termsOf(list{7, mostExp, mostExp}), termsOf(list{1, mostExp, 1}), termsOf(list{1, -1, 0}), termsOf(list{1, mostExp + 1, 0}), termsOf(list{1, math.MaxInt, math.MinInt}), s.terms(10, 2, 3), s.terms(10, 3, 3), s.terms(3, 9, 3)}
	var gifts []gift
	for _, r := range all {
		for _, l := range lists {
			for _, q := range all {
				a, _ := mpoly.Make(q, s.terms(s.below(4), len(q.Vars), 3))
				b, _ := mpoly.Make(r, s.terms(s.below(4), len(r.Vars), 3))
				gifts = append(gifts, gift{r, l, a, b, s.below(5) - 1}, gift{r, l, b, a, mostPower + 1})
			}
		}
	}
	return gifts
}

func eachCall(t *testing.T, do func(name string, call call, g gift)) {
	t.Helper()
	all := gifts(t)
	for name, call := range calls() {
		for _, g := range all {
			do(name, call, g)
		}
	}
}

func TestErrorsStandAlone(t *testing.T) { // R1
	eachCall(t, func(name string, call call, g gift) {
		got := call(g)
		if got.err != api.OK && !got.matches(answer{err: got.err}) {
			t.Errorf("%s of %v, %d terms: got something beside the error %d", name, g.r, len(g.l), int(got.err))
		}
	})
}

// behind is terms with something behind each list's length.
func behind(l []mpoly.Term) []mpoly.Term {
	list := make([]mpoly.Term, 0, len(l)+2)
	for _, x := range l {
		list = append(list, mpoly.Term{E: append(slices.Clone(x.E), 77, -1)[:len(x.E)], C: x.C})
	}
	return append(list, mpoly.Term{E: []int{5}, C: bigint.Of(9)}, mpoly.Term{})[:len(l)]
}

// whole is terms, and their exponents, with what stands behind them.
func whole(l []mpoly.Term) []mpoly.Term {
	var list []mpoly.Term
	for _, x := range l[:cap(l)] {
		list = append(list, mpoly.Term{E: slices.Clone(x.E[:cap(x.E)]), C: x.C})
	}
	return list
}

func namesBehind(l []string) []string { return append(slices.Clone(l), "more", "_")[:len(l)] }

func TestNothingIsWrittenInto(t *testing.T) { // R2: nor what stands behind a list's length
	eachCall(t, func(name string, call call, g gift) {
		want := call(g)
		handed := g
		handed.l, handed.r.Vars = behind(g.l), namesBehind(g.r.Vars)
		l, vars := whole(handed.l), slices.Clone(handed.r.Vars[:cap(handed.r.Vars)])
		if got := call(handed); !got.matches(want) {
			t.Errorf("%s of %v, %d terms: got something else of the same", name, g.r, len(g.l))
		}
		if !sameTerms(whole(handed.l), l) || !slices.Equal(handed.r.Vars[:cap(handed.r.Vars)], vars) {
			t.Errorf("%s writes into %v, %d terms", name, g.r, len(g.l))
		}
	})
}

func overwriteTerms(l []mpoly.Term) {
	l = l[:cap(l)]
	for i := range l {
		e := l[i].E[:cap(l[i].E)]
		for j := range e {
			e[j] = ^e[j]
		}
		l[i] = mpoly.Term{E: []int{-1}, C: bigint.Of(-99)}
	}
}

func overwriteNames(l []string) {
	l = l[:cap(l)]
	for i := range l {
		l[i] = "other"
	}
}

func TestWhatIsHandedInIsNotKept(t *testing.T) { // R2
	s := source(42)
	for _, r := range rings() {
		l := s.terms(12, len(r.Vars), 3)
		want := polyOf(t, r, l)
		other := r
		other.Vars = slices.Clone(r.Vars)
		handed := whole(l)
		a := polyOf(t, other, handed)
		overwriteTerms(handed)
		overwriteNames(other.Vars)
		wantSame(t, "a polynomial whose terms were written into", a, want)
		by := mpoly.Term{E: make(list, len(r.Vars)), C: bigint.Of(3)}
		scaled, _ := a.Scale(by)
		sum, _ := a.Add(a)
		tripled, _ := sum.Add(a)
		for i := range by.E {
			by.E[i] = 5
		}
		wantSame(t, "Scale, whose term was written into", scaled, tripled)
	}
}

func TestAnswersAreTheCallers(t *testing.T) { // R2: of each call that answers lists, or a polynomial
	s := source(43)
	for _, r := range rings() {
		l := s.terms(12, len(r.Vars), 3)
		a, b := polyOf(t, r, l), s.poly(t, r, 5, 3)
		keptA, keptB := whole(a.Terms()), whole(b.Terms())
		for name, call := range calls() {
			g := gift{r, l, a, b, 2}
			want, got := call(g), call(g)
			overwriteTerms(got.terms)
			overwriteTerms(got.poly.Terms())
			overwriteNames(got.ring.Vars)
			overwriteNames(got.poly.Ring().Vars)
			if again := call(g); !again.matches(want) || !got.poly.Is(want.poly) {
				t.Errorf("%s over %v answers something else, after its answer was written into", name, r)
			}
			if !sameTerms(a.Terms(), keptA) || !sameTerms(b.Terms(), keptB) || !mpoly.Same(a.Ring(), r) {
				t.Errorf("%s over %v answers what is another's", name, r)
			}
		}
	}
}

func TestListsOfOneAnswerAreApart(t *testing.T) { // R2
	s := source(44)
	for _, r := range rings() {
		a := s.poly(t, r, 8, 3)
		for i := range a.Len() {
			l := a.Terms()
			l[i].E = append(l[i].E, 999, 999)
			for j := range l[i].E {
				l[i].E[j] = 999
			}
			want := a.Terms()
			if !sameTerms(slices.Delete(l, i, i+1), slices.Delete(want, i, i+1)) {
				t.Errorf("over %v: the lists of two terms are one", r)
			}
		}
	}
}

func TestOneTwice(t *testing.T) { // R2: both are the same polynomial
	s := source(45)
	for _, r := range rings() {
		l := s.terms(6, len(r.Vars), 3)
		a, b := polyOf(t, r, l), polyOf(t, r, l)
		for name, call := range calls() {
			if got, want := call(gift{r, l, a, a, 2}), call(gift{r, l, a, b, 2}); !got.matches(want) {
				t.Errorf("%s over %v of one polynomial twice: got something else", name, r)
			}
		}
		wantSame(t, "a polynomial that was handed in twice", a, b)
	}
}

func TestAnswersHangOnArgumentsAlone(t *testing.T) { // R3: again and again the same, whatever came ahead
	all := gifts(t)
	for name, call := range calls() {
		want := make([]answer, len(all))
		for i, g := range all {
			want[i] = call(g)
		}
		for i, g := range slices.Backward(all) {
			if got := call(g); !got.matches(want[i]) {
				t.Errorf("%s of %v, %d terms: got something else", name, g.r, len(g.l))
			}
		}
	}
}

func TestCallsBesideOthers(t *testing.T) { // R3
	s := source(46)
	r := ring(7, api.GrevLex, 3)
	g := gift{r, s.terms(20, 3, 4), s.poly(t, r, 20, 4), s.poly(t, r, 20, 4), 2}
	want := map[string]answer{}
	for name, call := range calls() {
		want[name] = call(g)
	}
	var group sync.WaitGroup
	for range 8 {
		group.Go(func() {
			for name, call := range calls() {
				if !call(g).matches(want[name]) {
					t.Errorf("%s beside others answers something else", name)
				}
			}
		})
	}
	group.Wait()
}
