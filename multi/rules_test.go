package multi_test

import (
	"slices"
	"sync"
	"testing"

	"vinculum/api"
	"vinculum/bigint"
	"vinculum/mpoly"
	"vinculum/multi"
)

// answer is what a call answers.
type answer struct {
	number int
	primes []uint64
	poly   mpoly.Poly
	err    api.Errno
}

func (a answer) matches(b answer) bool {
	return a.number == b.number && slices.Equal(a.primes, b.primes) && a.poly.Is(b.poly) && a.err == b.err
}

// gift is what the calls are handed.
type gift struct {
	a, b   mpoly.Poly
	n, way int
	below  uint64
}

type call func(g gift) answer

func primesOr(l []uint64, err api.Errno) answer { return answer{primes: l, err: err} }
func polyOr(a mpoly.Poly, err api.Errno) answer { return answer{poly: a, err: err} }

func calls() map[string]call {
	return map[string]call{
		"Bits":     func(g gift) answer { return answer{number: multi.Bits(g.a, g.b)} },
		"Choose":   func(g gift) answer { return answer{number: multi.Choose(g.a, g.b)} },
		"Primes":   func(g gift) answer { return primesOr(multi.Primes(g.n, g.below)) },
		"ByPrimes": func(g gift) answer { return polyOr(multi.ByPrimes(g.a, g.b, g.below)) },
		"Mul":      func(g gift) answer { return polyOr(multi.Mul(g.a, g.b, g.way, g.below)) },
		"Pow":      func(g gift) answer { return polyOr(multi.Pow(g.a, g.n, g.way, g.below)) },
	}
}

// gifts are such as calls take, and such as they do not.
func gifts(t *testing.T) []gift {
	t.Helper()
	s := source(61)
	all := []api.Ring{{}, ring(0, 1, 0), ring(0, 1, 2), ring(0, 2, 2), ring(0, 3, 3), ring(7, 1, 0), ring(7, 1, 2), ring(2, 2, 2), ring(greatest, 2, 3)}
	numbers := []int{-1 << 63, -1, 0, 1, 2, 3, 4, 61, 1000, 1001, 4000, 4001, 1<<63 - 1}
	bounds := []uint64{0, 3, 4, 100, 3000, mostWord, mostWord + 1, 1<<64 - 1}
	var gifts []gift
	for _, r := range all {
		for _, q := range append(all, r, r, r) {
			any := func(r api.Ring, n, below int) mpoly.Poly { // the zero Poly of a ring that may not be
				a, _ := mpoly.Make(r, s.terms(s.below(n+1), len(r.Vars), below))
				return a
			}
			for way := -1; way < 6; way++ {
				n, below := numbers[s.below(len(numbers))], bounds[s.below(len(bounds))]
				if n > 4 && way >= 0 && n <= 1000 {
					gifts = append(gifts, gift{any(r, 1, 2), any(r, 1, 2), n, way, below})
					n = s.below(5)
				}
				gifts = append(gifts, gift{any(r, 4, 3), any(q, 4, 3), n, way, below}, gift{any(r, 4, 3), any(r, 4, 3), s.below(5), way, mostWord}, gift{any(r, 4, mostExp), any(q, 4, mostExp), n, way, below})
			}
		}
	}
	z := ring(0, api.GrLex, 1)
	great := filled(t, z, 70, ofBits(t, 150))
	return append(gifts, gift{great, great, 2, auto, 0}, gift{great, great, 2, byCrt, mostWord}, gift{great, great, 2, byCrt, 100})
}

func eachCall(t *testing.T, do func(name string, call call, g gift)) {
	t.Helper()
	all := gifts(t)
	for name, call := range calls() {
		for _, g := range all {
			do(name, call, g)
		}
	}
}

func TestErrorsStandAlone(t *testing.T) { // R1
	errs := map[string]map[api.Errno]int{}
	eachCall(t, func(name string, call call, g gift) {
		got := call(g)
		if got.err != api.OK && (!got.matches(answer{err: got.err}) || got.primes != nil) {
			t.Errorf("%s by the way %d, below %d: got something beside the error %d", name, g.way, g.below, int(got.err))
		}
		if errs[name] == nil {
			errs[name] = map[api.Errno]int{}
		}
		errs[name][got.err]++
	})
	for name, want := range map[string]int{"Bits": 1, "Choose": 1, "Primes": 4, "ByPrimes": 5, "Mul": 5, "Pow": 4} {
		if len(errs[name]) != want {
			t.Errorf("%s has the errors %v", name, errs[name])
		}
	}
}

// polyTerms are the terms of polynomials, written down.
func polyTerms(l ...mpoly.Poly) []mpoly.Term {
	var all []mpoly.Term
	for _, a := range l {
		for _, x := range a.Terms() {
			all = append(all, mpoly.Term{E: slices.Clone(x.E), C: bigint.From(x.C.Sign() < 0, x.C.Nat())})
		}
	}
	return all
}

func sameTerms(a, b []mpoly.Term) bool {
	return slices.EqualFunc(a, b, func(x, y mpoly.Term) bool { return slices.Equal(x.E, y.E) && x.C.Cmp(y.C) == 0 })
}

func TestNothingIsWrittenInto(t *testing.T) { // R2
	eachCall(t, func(name string, call call, g gift) {
		terms, rings := polyTerms(g.a, g.b), []api.Ring{g.a.Ring(), g.b.Ring()}
		call(g)
		if !sameTerms(polyTerms(g.a, g.b), terms) || !mpoly.Same(g.a.Ring(), rings[0]) || !mpoly.Same(g.b.Ring(), rings[1]) {
			t.Errorf("%s by the way %d, below %d: writes into a polynomial", name, g.way, g.below)
		}
	})
}

// overwrite writes into all that an answer hands out, to the end of its memory.
func overwrite(a answer) {
	primes := a.primes[:cap(a.primes)]
	for i := range primes {
		primes[i] = 77
	}
	for _, x := range a.poly.Terms() {
		for i := range x.E {
			x.E[i] = ^x.E[i]
		}
		for i, words := 0, x.C.Nat(); i < len(words); i++ {
			words[i] = 77
		}
	}
	names := a.poly.Ring().Vars
	for i := range names {
		names[i] = "other"
	}
}

func TestAnswersAreTheCallers(t *testing.T) { // R2
	eachCall(t, func(name string, call call, g gift) {
		want, terms := call(g), polyTerms(g.a, g.b)
		overwrite(call(g))
		if again := call(g); !again.matches(want) {
			t.Errorf("%s by the way %d, below %d answers something else, after its answer was written into", name, g.way, g.below)
		}
		if !sameTerms(polyTerms(g.a, g.b), terms) {
			t.Errorf("%s by the way %d, below %d answers what is another's", name, g.way, g.below)
		}
	})
}

func TestOneTwice(t *testing.T) { // R2: both are the same polynomial
	s := source(64)
	for _, r := range rings() {
		l := s.terms(6, len(r.Vars), 2)
		a, b := polyOf(t, r, l), polyOf(t, r, l)
		for name, call := range calls() {
			for way := range 5 {
				if got, want := call(gift{a, a, 2, way, mostWord}), call(gift{a, b, 2, way, mostWord}); !got.matches(want) {
					t.Errorf("%s over %v of one polynomial twice: got something else", name, r)
				}
			}
		}
		wantSame(t, "a polynomial that was handed in twice", a, b)
	}
}

func TestAnswersHangOnArgumentsAlone(t *testing.T) { // R3: again and again the same, whatever came ahead
	all := gifts(t)
	for name, call := range calls() {
		want := make([]answer, len(all))
		for i, g := range all {
			want[i] = call(g)
		}
		for i, g := range slices.Backward(all) {
			if got := call(g); !got.matches(want[i]) {
				t.Errorf("%s by the way %d, below %d: got something else", name, g.way, g.below)
			}
		}
	}
}

func TestCallsBesideOthers(t *testing.T) { // R3
	s := source(65)
	for _, r := range []api.Ring{ring(0, api.GrevLex, 3), ring(greatest, api.GrevLex, 3)} {
		a, b := s.wide(t, r, 40, 100, 6), s.wide(t, r, 30, 100, 6)
		for way := range 5 {
			g := gift{a, b, 2, way, mostWord}
			want := map[string]answer{}
			for name, call := range calls() {
				want[name] = call(g)
			}
			var group sync.WaitGroup
			for range 8 {
				group.Go(func() {
					for name, call := range calls() {
						if !call(g).matches(want[name]) {
							t.Errorf("%s beside others answers something else", name)
						}
					}
				})
			}
			group.Wait()
		}
	}
}
