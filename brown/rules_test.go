package brown_test

import (
	"math"
	"slices"
	"sync"
	"testing"

	"vinculum/api"
	"vinculum/bigint"
	"vinculum/brown"
	"vinculum/mpoly"
)

// answer is what a call answers.
type answer struct {
	poly mpoly.Poly
	is   bool
	err  api.Errno
}

func (a answer) matches(b answer) bool {
	return a.poly.Is(b.poly) && a.is == b.is && a.err == b.err
}

// gift is what the calls are handed, each as much of it as it takes.
type gift struct {
	g, a, b mpoly.Poly
	brown.Choices
}

func (g gift) copied() gift {
	g.Primes, g.Points = slices.Clone(g.Primes), slices.Clone(g.Points)
	return g
}

type call func(g gift) answer

func calls() map[string]call {
	return map[string]call{
		"Gcd": func(g gift) answer {
			a, err := brown.Gcd(g.a, g.b, g.Choices)
			return answer{poly: a, err: err}
		},
		"Norm": func(g gift) answer { return answer{poly: brown.Norm(g.a)} },
		"Field": func(g gift) answer {
			a, err := brown.Field(g.a, g.b, g.Points)
			return answer{poly: a, err: err}
		},
		"Tests": func(g gift) answer {
			is, err := brown.Tests(g.g, g.a, g.b)
			return answer{is: is, err: err}
		},
	}
}

// gifts are such as calls take, and such as they do not.
func gifts(t *testing.T) []gift {
	t.Helper()
	s := source(71)
	all := []api.Ring{{}, ring(0, 1, 0), ring(0, 1, 1), ring(0, 2, 2), ring(0, 3, 3), ring(7, 1, 0), ring(7, 1, 2), ring(2, 2, 2), ring(greatest, 2, 3), ring(0, 1, 8)}
	primes := []row{nil, {}, primes(5), {97, 97, 101}, {3, 5, 7}, {2}, {0, greatest}, {math.MaxUint64}}
	points := []row{nil, {}, points(0, 40), {5, 5, 5}, {0, 1}, {math.MaxUint64, 1 << 63, 12, 13, 14}}
	var l []gift
	for _, r := range all {
		for i := range 60 {
			any := func(n, below int) mpoly.Poly { // the zero Poly of a ring that may not be
				a, _ := mpoly.Make(r, s.terms(s.below(n+1), slices.Repeat(list{below}, len(r.Vars))...))
				return a
			}
			g, a, b := any(3, 2), any(3, 2), any(3, 2)
			switch {
			case i%3 > 0:
				a, _ = g.Mul(a)
				b, _ = g.Mul(b)
			case i%9 == 0:
				b = any(3, mostIn+3)
			case i%7 == 0:
				b, _ = mpoly.Make(ring(7, api.Lex, 2), s.terms(3, 2, 2))
			}
			l = append(l, gift{g, a, b, brown.Choices{Primes: primes[s.below(len(primes))], Points: points[s.below(len(points))]}})
		}
	}
	r := ring(0, api.Lex, 1)
	high := made(t, r, list{1, mostTerms + 1}, list{-1, 0})
	return append(l, gift{made(t, r, list{1, 1}, list{-1, 0}), high, high, plenty()})
}

func eachCall(t *testing.T, do func(name string, call call, g gift)) {
	t.Helper()
	all := gifts(t)
	for name, call := range calls() {
		for _, g := range all {
			do(name, call, g)
		}
	}
}

func TestErrorsStandAlone(t *testing.T) { // R1
	errs := map[string]map[api.Errno]int{}
	eachCall(t, func(name string, call call, g gift) {
		got := call(g)
		if got.err != api.OK && !got.matches(answer{err: got.err}) {
			t.Errorf("%s over %v: got something beside the error %d", name, g.a.Ring(), int(got.err))
		}
		if errs[name] == nil {
			errs[name] = map[api.Errno]int{}
		}
		errs[name][got.err]++
	})
	for name, want := range map[string]int{"Gcd": 5, "Norm": 1, "Field": 4, "Tests": 3} { // ErrLimit of Gcd and Field has tests of its own
		if len(errs[name]) != want {
			t.Errorf("%s has the errors %v", name, errs[name])
		}
	}
}

// polyTerms are the terms of polynomials, written down.
func polyTerms(l ...mpoly.Poly) []mpoly.Term {
	var all []mpoly.Term
	for _, a := range l {
		for _, x := range a.Terms() {
			all = append(all, mpoly.Term{E: slices.Clone(x.E), C: bigint.From(x.C.Sign() < 0, x.C.Nat())})
		}
	}
	return all
}

func sameTerms(a, b []mpoly.Term) bool {
	return slices.EqualFunc(a, b, func(x, y mpoly.Term) bool { return slices.Equal(x.E, y.E) && x.C.Cmp(y.C) == 0 })
}

// behind is a list with something behind its length.
func behind(l row) row { return append(slices.Clone(l), 9, 0, 4)[:len(l)] }

func whole(l row) row { return l[:cap(l)] }

func TestNothingIsWrittenInto(t *testing.T) { // R2: nor what stands behind a list's length
	eachCall(t, func(name string, call call, g gift) {
		terms, rings, handed := polyTerms(g.g, g.a, g.b), []api.Ring{g.g.Ring(), g.a.Ring(), g.b.Ring()}, g
		handed.Primes, handed.Points = behind(g.Primes), behind(g.Points)
		primes, points := slices.Clone(whole(handed.Primes)), slices.Clone(whole(handed.Points))
		got := call(handed)
		if !slices.Equal(whole(handed.Primes), primes) || !slices.Equal(whole(handed.Points), points) {
			t.Errorf("%s over %v: writes into the choices", name, g.a.Ring())
		}
		if !sameTerms(polyTerms(g.g, g.a, g.b), terms) || !slices.EqualFunc(rings, []api.Ring{g.g.Ring(), g.a.Ring(), g.b.Ring()}, mpoly.Same) {
			t.Errorf("%s over %v: writes into a polynomial", name, g.a.Ring())
		}
		if !call(g).matches(got) {
			t.Errorf("%s over %v: got something else of the same", name, g.a.Ring())
		}
	})
}

func TestWhatIsHandedInIsNotKept(t *testing.T) { // R2
	eachCall(t, func(name string, call call, g gift) {
		handed := g.copied()
		got := call(handed)
		for _, l := range []row{handed.Primes, handed.Points} {
			for i := range l {
				l[i] = ^l[i]
			}
		}
		if !got.matches(call(g)) {
			t.Errorf("%s over %v: what was handed in is kept", name, g.a.Ring())
		}
	})
}

// overwrite writes into all that a polynomial hands out.
func overwrite(a mpoly.Poly) {
	for _, x := range a.Terms() {
		for i := range x.E {
			x.E[i] = ^x.E[i]
		}
		for i, words := 0, x.C.Nat(); i < len(words); i++ {
			words[i] = 77
		}
	}
	names := a.Ring().Vars
	for i := range names {
		names[i] = "other"
	}
}

func TestAnswersAreTheCallers(t *testing.T) { // R2
	eachCall(t, func(name string, call call, g gift) {
		want, terms := call(g), polyTerms(g.g, g.a, g.b)
		overwrite(call(g).poly)
		if again := call(g); !again.matches(want) {
			t.Errorf("%s over %v answers something else, after its answer was written into", name, g.a.Ring())
		}
		if !sameTerms(polyTerms(g.g, g.a, g.b), terms) {
			t.Errorf("%s over %v answers what is another's", name, g.a.Ring())
		}
	})
}

func TestOneListTwice(t *testing.T) { // R2: the primes are the points
	r := ring(0, api.Lex, 2)
	g := linear(t, r, 1, 2, 3)
	a, b := product(t, g, linear(t, r, 1, 1, 1)), product(t, g, linear(t, r, 1, 3, 1))
	l := primes(9)
	wantGcd(t, "one list twice", a, b, brown.Choices{Primes: l, Points: l}, g)
	if !slices.Equal(l, primes(9)) {
		t.Error("the list was written into")
	}
}

func TestAnswersHangOnArgumentsAlone(t *testing.T) { // R3: again and again the same, whatever came ahead
	all := gifts(t)
	for name, call := range calls() {
		want := make([]answer, len(all))
		for i, g := range all {
			want[i] = call(g)
		}
		for i, g := range slices.Backward(all) {
			if got := call(g); !got.matches(want[i]) {
				t.Errorf("%s over %v: got something else", name, g.a.Ring())
			}
		}
	}
}

func TestCallsBesideOthers(t *testing.T) { // R3
	s := source(72)
	for _, r := range []api.Ring{ring(0, api.GrevLex, 3), ring(greatest, api.GrevLex, 3)} {
		d := s.other(t, r, 4, 3)
		g := gift{d, product(t, d, s.other(t, r, 5, 3)), product(t, d, s.other(t, r, 5, 3)), plenty()}
		want := map[string]answer{}
		for name, call := range calls() {
			want[name] = call(g)
		}
		var group sync.WaitGroup
		for range 8 {
			group.Go(func() {
				for name, call := range calls() {
					if !call(g).matches(want[name]) {
						t.Errorf("%s beside others answers something else", name)
					}
				}
			})
		}
		group.Wait()
	}
}
