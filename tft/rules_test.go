package tft_test

import (
	"math"
	"slices"
	"sync"
	"testing"

	"vinculum/api"
	"vinculum/tft"
)

// answer is what a call answers.
type answer struct {
	word uint64
	list []uint64
	err  api.Errno
}

func (a answer) matches(b answer) bool {
	return a.word == b.word && slices.Equal(a.list, b.list) && a.err == b.err
}

func wordOr(x uint64, err api.Errno) answer { return answer{word: x, err: err} }

func listOr(l []uint64, err api.Errno) answer { return answer{list: l, err: err} }

// calls are all of a plan, each made a call of two lists, of which the second one's
// length tells places and how many points.
func calls() map[string]func(t *tft.Plan, a, b []uint64) answer {
	return map[string]func(t *tft.Plan, a, b []uint64) answer{
		"Most":  func(t *tft.Plan, a, b []uint64) answer { return answer{word: uint64(t.Most())} },
		"Point": func(t *tft.Plan, a, b []uint64) answer { return wordOr(t.Point(len(b) - 1)) },
		"Go":    func(t *tft.Plan, a, b []uint64) answer { return listOr(t.Go(a, len(b)-1)) },
		"Back":  func(t *tft.Plan, a, b []uint64) answer { return listOr(t.Back(a)) },
		"Mul":   func(t *tft.Plan, a, b []uint64) answer { return listOr(t.Mul(a, b)) },
	}
}

// gifts are lists of all lengths that a plan of four points takes, and of others.
func gifts() [][]uint64 {
	return [][]uint64{
		nil, {}, {0}, {math.MaxUint64}, {1, 2}, {0, 1}, {3, 4, 5}, {1, 2, 0, 0}, {18, 19, 17, 34}, {0, 0, 0, 0}, {5, math.MaxUint64, 1 << 63, 7},
		{1, 2, 3, 4, 5}, {9, 8, 7, 6, 5, 4, 3, 2, 1},
	}
}

func eachCall(do func(name string, call func(t *tft.Plan, a, b []uint64) answer, a, b []uint64)) {
	for name, call := range calls() {
		for _, a := range gifts() {
			for _, b := range gifts() {
				do(name, call, a, b)
			}
		}
	}
}

// made is a plan and what it was made of.
type made struct {
	size
	plan *tft.Plan
}

// plans are of one point, two and four, of small primes and of the greatest.
func plans(t *testing.T) []made {
	t.Helper()
	var list []made
	for _, z := range []size{{2, 0}, {3, 1}, {17, 2}, {greatPrimes(t)[0], 2}, {1<<63 - 25, 1}} {
		list = append(list, made{z, planOf(t, z.p, z.k)})
	}
	return list
}

func TestNilPlans(t *testing.T) { // P7.1, R1
	var none *tft.Plan
	eachCall(func(name string, call func(t *tft.Plan, a, b []uint64) answer, a, b []uint64) {
		want := answer{}
		if name != "Most" {
			want.err = api.ErrNil
		}
		if got := call(none, a, b); !got.matches(want) {
			t.Errorf("%s of a nil plan, %d and %d: got %v, want %v", name, a, b, got, want)
		}
	})
}

func TestErrorsStandAlone(t *testing.T) { // R1
	for _, m := range plans(t) {
		eachCall(func(name string, call func(t *tft.Plan, a, b []uint64) answer, a, b []uint64) {
			got := call(m.plan, a, b)
			if got.err != api.OK && (got.word != 0 || len(got.list) != 0) {
				t.Errorf("%s of %d and %d: got %v beside an error", name, a, b, got)
			}
			if !slices.Contains([]api.Errno{api.OK, api.ErrArg, api.ErrLimit}, got.err) {
				t.Errorf("%s of %d and %d: got the error %d", name, a, b, int(got.err))
			}
		})
	}
}

func TestAnswersAreBelow(t *testing.T) { // P7.2, P7.3
	for _, m := range plans(t) {
		eachCall(func(name string, call func(t *tft.Plan, a, b []uint64) answer, a, b []uint64) {
			got := call(m.plan, a, b)
			for _, x := range got.list {
				if x >= m.p {
					t.Errorf("modulo %d: %s of %d and %d: got %d", m.p, name, a, b, got.list)
				}
			}
			left := call(m.plan, leftBy(a, m.p), leftBy(b, m.p))
			if !left.matches(got) {
				t.Errorf("modulo %d: %s of %d and %d: got %v, and %v of what is left of them", m.p, name, a, b, got, left)
			}
		})
	}
}

// behind is a list with something behind its length, and all of it.
func behind(l []uint64) (list, whole []uint64) {
	whole = append(slices.Clone(l), 0xdeadbeef, 5, 0, 77, 1)
	return whole[:len(l)], whole
}

func overwrite(l []uint64) {
	l = l[:cap(l)]
	for i := range l {
		l[i] = ^l[i]
	}
}

func TestNothingIsWrittenInto(t *testing.T) { // R2
	for _, m := range plans(t) {
		eachCall(func(name string, call func(t *tft.Plan, a, b []uint64) answer, a, b []uint64) {
			want := call(m.plan, a, b)
			handedA, wholeA := behind(a)
			handedB, wholeB := behind(b)
			keptA, keptB := slices.Clone(wholeA), slices.Clone(wholeB)
			if got := call(m.plan, handedA, handedB); !got.matches(want) {
				t.Errorf("%s of %d and %d: got %v, then %v", name, a, b, want, got)
			}
			if !slices.Equal(wholeA, keptA) || !slices.Equal(wholeB, keptB) {
				t.Errorf("%s writes into %d or %d", name, a, b)
			}
		})
	}
}

func TestAnswersAreTheCallers(t *testing.T) { // R2
	for _, m := range plans(t) {
		eachCall(func(name string, call func(t *tft.Plan, a, b []uint64) answer, a, b []uint64) {
			handedA, handedB := slices.Clone(a), slices.Clone(b)
			first, second := call(m.plan, handedA, handedB), call(m.plan, handedA, handedB)
			want := answer{first.word, slices.Clone(first.list), first.err}
			overwrite(first.list)
			if !slices.Equal(handedA, a) || !slices.Equal(handedB, b) || !second.matches(want) {
				t.Errorf("%s of %d and %d answers what is another's", name, a, b)
			}
			overwrite(handedA)
			overwrite(handedB)
			if !second.matches(want) {
				t.Errorf("%s answers a piece of %d or %d", name, a, b)
			}
			if third := call(m.plan, a, b); !third.matches(want) {
				t.Errorf("%s of %d and %d: got %v after its answer was written into, want %v", name, a, b, third, want)
			}
		})
	}
}

func TestAnswersHangOnArgumentsAlone(t *testing.T) { // R3
	for _, m := range plans(t) {
		eachCall(func(name string, call func(t *tft.Plan, a, b []uint64) answer, a, b []uint64) {
			want := call(m.plan, a, b)
			call(m.plan, b, a)
			fresh := planOf(t, m.p, m.k)
			if got, again := call(fresh, a, b), call(m.plan, a, b); !got.matches(want) || !again.matches(want) {
				t.Errorf("%s of %d and %d: got %v, then %v, and %v of another plan", name, a, b, want, again, got)
			}
		})
	}
}

func TestPlansDoNotMeet(t *testing.T) { // R3
	four, sixteen, other := planOf(t, 17, 2), planOf(t, 17, 4), planOf(t, 97, 2)
	l := []uint64{1, 2, 3}
	want := []uint64{6, 2, 7}
	if _, err := tft.New(17, 5); err != api.ErrArg {
		t.Errorf("New(17, 5): error %d", int(err))
	}
	for range 2 {
		goOf(t, sixteen, make([]uint64, 16), 16)
		goOf(t, other, l, 3)
		if got := goOf(t, four, l, 3); !slices.Equal(got, want) || four.Most() != 4 {
			t.Errorf("Go of %d beside other plans: got %d, want %d", l, got, want)
		}
	}
}

func TestOnePlanForMany(t *testing.T) { // R3
	s := source(31)
	plan := planOf(t, greatPrimes(t)[0], 10)
	a, b := s.words(700), s.words(300)
	want := map[string]answer{}
	for name, call := range calls() {
		want[name] = call(plan, a, b)
	}
	var group sync.WaitGroup
	for range 8 {
		group.Go(func() {
			for name, call := range calls() {
				if got := call(plan, a, b); !got.matches(want[name]) {
					t.Errorf("%s beside others answers something else", name)
				}
			}
		})
	}
	group.Wait()
}
