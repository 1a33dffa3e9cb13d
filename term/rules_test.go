package term_test

import (
	"math"
	"slices"
	"sync"
	"testing"

	"vinculum/api"
	"vinculum/term"
)

// answer is what a call answers.
type answer struct {
	list   list
	number int
	err    api.Errno
}

func (a answer) matches(b answer) bool {
	return slices.Equal(a.list, b.list) && a.number == b.number && a.err == b.err
}

// gift is what the calls are handed: a number (an order, how many variables, a pack) and two lists.
type gift struct {
	n    int
	a, b list
}

func (g gift) copied() gift { return gift{g.n, slices.Clone(g.a), slices.Clone(g.b)} }

type call func(g gift) answer

func listCall(of pairCall) call {
	return func(g gift) answer {
		l, err := of(g.a, g.b)
		return answer{list: l, err: err}
	}
}

// calls are all there are.
func calls() map[string]call {
	all := map[string]call{
		"Check": func(g gift) answer { return answer{err: term.Check(g.a, g.n)} },
		"Deg":   func(g gift) answer { return answer{number: term.Deg(g.a)} },
		"Cmp": func(g gift) answer {
			c, err := term.Cmp(g.n, g.a, g.b)
			return answer{number: c, err: err}
		},
		"Pack": func(g gift) answer {
			n, err := term.Pack(g.a, g.b)
			return answer{number: n, err: err}
		},
		"Unpack": func(g gift) answer {
			l, err := term.Unpack(g.n, g.b)
			return answer{list: l, err: err}
		},
	}
	for name, of := range pairCalls() {
		all[name] = listCall(of)
	}
	return all
}

// gifts are such as calls take, and such as they do not.
func gifts() []gift {
	s := source(31)
	lists := []list{nil, {}, {0}, {1}, {most}, {2, 1}, {10, 5}, {1, 0, 2}, {0, 3, 0}, {3, 4, 8}, filled(8, 2), filled(8, most), filled(8, math.MaxInt), {1 << 26, 1 << 26}, {mostPacks}, {math.MaxInt, 1}, s.exponents(8, most), s.exponents(8, 1)}
	lists = append(lists, mayNotBe()...)
	var all []gift
	for _, n := range []int{0, 1, 2, 3, 4, 8, 9, 12, -1, most, most + 1, mostPacks - 1, mostPacks, math.MinInt, math.MaxInt} {
		for _, a := range lists {
			for _, b := range lists {
				all = append(all, gift{n, a, b})
			}
		}
	}
	return all
}

func eachCall(do func(name string, call call, g gift)) {
	all := gifts()
	for name, call := range calls() {
		for _, g := range all {
			do(name, call, g)
		}
	}
}

// checkError is what is wrong with exponents.
func checkError(e list, vars int) api.Errno {
	switch {
	case vars < 0 || vars > manyVars || len(e) != vars || vars > 0 && slices.Min(e) < 0:
		return api.ErrArg
	case !may(e):
		return api.ErrLimit
	default:
		return api.OK
	}
}

func isBase(base list) bool {
	return len(base) <= manyVars && (len(base) == 0 || slices.Min(base) >= 1)
}

func packError(a, base list) api.Errno {
	switch {
	case !may(a) || len(a) != len(base) || !isBase(base) || !fits(a, base):
		return api.ErrArg
	case isMore(base):
		return api.ErrLimit
	default:
		return api.OK
	}
}

func unpackError(n int, base list) api.Errno {
	switch {
	case !isBase(base):
		return api.ErrArg
	case isMore(base):
		return api.ErrLimit
	case n < 0 || int64(n) >= productOf(base).Int64():
		return api.ErrArg
	}
	for _, b := range base {
		if n%b > most {
			return api.ErrLimit
		}
		n /= b
	}
	return api.OK
}

// errorOf is the error that a call is to answer.
func errorOf(name string, g gift) api.Errno {
	alike := may(g.a) && may(g.b) && len(g.a) == len(g.b)
	switch {
	case name == "Check":
		return checkError(g.a, g.n)
	case name == "Deg":
		return api.OK
	case name == "Pack":
		return packError(g.a, g.b)
	case name == "Unpack":
		return unpackError(g.n, g.b)
	case !alike || name == "Cmp" && !slices.Contains(orders(), g.n):
		return api.ErrArg
	case name == "Cmp":
		return api.OK
	default:
		_, err := madeOf(name, g.a, g.b)
		return err
	}
}

func TestErrorsStandAlone(t *testing.T) { // R1: at all arguments the right one, and nothing beside it
	eachCall(func(name string, call call, g gift) {
		got := call(g)
		if want := errorOf(name, g); got.err != want {
			t.Errorf("%s of %d, %d, %d: got the error %d, want %d", name, g.n, g.a, g.b, int(got.err), int(want))
		}
		if got.err != api.OK && (len(got.list) > 0 || got.number != 0) {
			t.Errorf("%s of %d, %d, %d: got %d, %d beside an error", name, g.n, g.a, g.b, got.list, got.number)
		}
	})
}

// behind is a list with something behind its length.
func behind(l list) list { return append(slices.Clone(l), 77, 1, 0, 5)[:len(l)] }

func whole(l list) list { return l[:cap(l)] }

func overwrite(l list) {
	l = whole(l)
	for i := range l {
		l[i] = ^l[i]
	}
}

func TestNothingIsWrittenInto(t *testing.T) { // R2: nor what stands behind a list's length
	eachCall(func(name string, call call, g gift) {
		want := call(g)
		handed := gift{g.n, behind(g.a), behind(g.b)}
		a, b := slices.Clone(whole(handed.a)), slices.Clone(whole(handed.b))
		if got := call(handed); !got.matches(want) {
			t.Errorf("%s of %d, %d, %d: got %v, then %v", name, g.n, g.a, g.b, want, got)
		}
		if !slices.Equal(whole(handed.a), a) || !slices.Equal(whole(handed.b), b) {
			t.Errorf("%s writes into %d, %d", name, g.a, g.b)
		}
	})
}

func TestAnswersAreTheCallers(t *testing.T) { // R2
	eachCall(func(name string, call call, g gift) {
		handed := g.copied()
		first, second := call(handed), call(handed)
		want := answer{slices.Clone(first.list), first.number, first.err}
		overwrite(first.list)
		if !slices.Equal(handed.a, g.a) || !slices.Equal(handed.b, g.b) || !second.matches(want) {
			t.Errorf("%s of %d, %d, %d answers what is another's", name, g.n, g.a, g.b)
		}
		overwrite(handed.a)
		overwrite(handed.b)
		if !second.matches(want) {
			t.Errorf("%s answers a piece of %d, %d", name, g.a, g.b)
		}
		if third := call(g); !third.matches(want) {
			t.Errorf("%s of %d, %d, %d: got %v after its answer was written into, want %v", name, g.n, g.a, g.b, third, want)
		}
	})
}

func TestOneListTwice(t *testing.T) { // R2: both arguments are one, or pieces of one
	kept := list{3, 1, 4, 1, 5, 9, 2, 6}
	l := slices.Clone(kept)
	for name, call := range calls() {
		for n := range 5 {
			for _, cut := range []int{0, 1, 3} {
				first, second := l[:len(l)-cut], l[cut:]
				apart := call(gift{n, slices.Clone(first), slices.Clone(second)})
				if got := call(gift{n, first, second}); !got.matches(apart) {
					t.Errorf("%s of pieces of a list: got %v, want %v", name, got, apart)
				}
			}
		}
	}
	if !slices.Equal(l, kept) {
		t.Errorf("%d is written into", l)
	}
}

func TestAnswersHangOnArgumentsAlone(t *testing.T) { // R3
	all := gifts()
	for name, call := range calls() {
		want := make([]answer, len(all))
		for i, g := range all {
			want[i] = call(g)
		}
		for i, g := range slices.Backward(all) {
			if got := call(g); !got.matches(want[i]) {
				t.Errorf("%s of %d, %d, %d: got %v, then %v", name, g.n, g.a, g.b, want[i], got)
			}
		}
	}
}

func TestCallsBesideOthers(t *testing.T) { // R3
	g := gift{2, list{2, 0, 1}, list{5, 3, 7}}
	want := map[string]answer{}
	for name, call := range calls() {
		want[name] = call(g)
	}
	var group sync.WaitGroup
	for range 8 {
		group.Go(func() {
			for name, call := range calls() {
				if !call(g).matches(want[name]) {
					t.Errorf("%s beside others answers something else", name)
				}
			}
		})
	}
	group.Wait()
}
