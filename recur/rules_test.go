package recur_test

import (
	"math"
	"slices"
	"sync"
	"testing"

	"vinculum/api"
	"vinculum/recur"
)

// answer is what a call answers.
type answer struct {
	number uint64
	list   row
	err    api.Errno
}

func (a answer) matches(b answer) bool {
	return a.number == b.number && slices.Equal(a.list, b.list) && a.err == b.err
}

// gift is what the calls are handed, each as much of it as it takes.
type gift struct {
	p    uint64
	r    rule
	l    row
	many int
	at   uint64
}

func (g gift) copied() gift {
	g.r, g.l = slices.Clone(g.r), slices.Clone(g.l)
	return g
}

type call func(g gift) answer

func number(is bool) uint64 {
	if is {
		return 1
	}
	return 0
}

// calls are all of the package.
func calls() map[string]call {
	return map[string]call{
		"Find": func(g gift) answer {
			r, err := recur.Find(g.p, g.l)
			return answer{0, row(r), err}
		},
		"Holds": func(g gift) answer {
			is, err := recur.Holds(g.p, g.r, g.l)
			return answer{number(is), nil, err}
		},
		"More": func(g gift) answer {
			l, err := recur.More(g.p, g.r, g.l, g.many)
			return answer{0, l, err}
		},
		"Char": func(g gift) answer {
			c, err := recur.Char(g.p, g.r)
			return answer{0, row(c), err}
		},
		"Far": func(g gift) answer {
			x, err := recur.Far(g.p, g.r, g.l, g.at)
			return answer{x, nil, err}
		},
	}
}

// gifts are such as calls take, and such as they do not.
func gifts() []gift {
	rules := []rule{nil, {}, {0}, {1}, {7}, {math.MaxUint64}, {6, 6}, {0, 0}, {1, 2, 3}, {5, 0, 7, 0}, make(rule, 80)}
	rows := []row{nil, {}, {0}, {5}, {7, 14}, {1, 1}, {0, 1}, {1, 1, 2, 3, 5, 1}, {0, 0, 0, 8, 0}, {math.MaxUint64, 0, greatest, 3}, oneTo(90), make(row, 10001)}
	var all []gift
	for _, p := range []uint64{2, 7, greatest, 0, 1, 9, 1 << 63, math.MaxUint64} {
		for _, r := range rules {
			for _, l := range rows {
				many := []int{0, 1, 5, 70, 200, -1, 100001, math.MinInt, math.MaxInt}[len(all)%9]
				at := []uint64{0, 1, 5, 1000, math.MaxUint64}[len(all)%5]
				all = append(all, gift{p, r, l, many, at})
			}
		}
	}
	return all
}

func eachCall(do func(name string, call call, g gift)) {
	for name, call := range calls() {
		for _, g := range gifts() {
			do(name, call, g)
		}
	}
}

// errorOf is the error that a call is to answer.
func errorOf(name string, g gift) api.Errno {
	switch {
	case !slices.Contains(primes(), g.p):
		return api.ErrPrime
	case name == "Find" && len(g.l) > 10000:
		return api.ErrLimit
	case name == "More" && g.many < 0, (name == "More" || name == "Far") && len(g.l) < len(g.r):
		return api.ErrArg
	case name == "More" && g.many > 100000:
		return api.ErrLimit
	default:
		return api.OK
	}
}

func TestErrorsStandAlone(t *testing.T) { // R1
	eachCall(func(name string, call call, g gift) {
		got := call(g)
		if got.err != errorOf(name, g) {
			t.Errorf("%s of %d, %d, %d, %d, %d: got the error %d", name, g.p, short(g.r), short(g.l), g.many, g.at, int(got.err))
		}
		if got.err != api.OK && !got.matches(answer{err: got.err}) {
			t.Errorf("%s of %d, %d, %d, %d, %d: got %v beside an error", name, g.p, short(g.r), short(g.l), g.many, g.at, got)
		}
	})
}

func TestAnswersAreBelowThePrime(t *testing.T) { // P10.1, P10.2: all is modulo p
	eachCall(func(name string, call call, g gift) {
		got := call(g)
		if got.err != api.OK {
			return
		}
		if got.number >= g.p || !slices.Equal(got.list, leftOf(got.list, g.p)) {
			t.Errorf("modulo %d: %s of %d, %d: got %v", g.p, name, short(g.r), short(g.l), got)
		}
		same := g.copied()
		for _, l := range []row{same.r, same.l} {
			for i, x := range l {
				l[i] = x%g.p + g.p
			}
		}
		if other := call(same); !other.matches(got) {
			t.Errorf("modulo %d: %s of %d, %d: got %v, want %v", g.p, name, short(same.r), short(same.l), other, got)
		}
	})
}

// behind is a list with something behind its length.
func behind(l row) row { return append(slices.Clone(l), 77, 1, 0, 5)[:len(l)] }

func whole(l row) row { return l[:cap(l)] }

func overwrite(l row) {
	l = whole(l)
	for i := range l {
		l[i] = ^l[i]
	}
}

func TestNothingIsWrittenInto(t *testing.T) { // R2: nor what stands behind a list's length
	eachCall(func(name string, call call, g gift) {
		want := call(g)
		handed := gift{g.p, behind(g.r), behind(g.l), g.many, g.at}
		r, l := slices.Clone(whole(handed.r)), slices.Clone(whole(handed.l))
		if got := call(handed); !got.matches(want) {
			t.Errorf("modulo %d: %s of %d, %d: got %v, then %v", g.p, name, short(g.r), short(g.l), want, got)
		}
		if !slices.Equal(whole(handed.r), r) || !slices.Equal(whole(handed.l), l) {
			t.Errorf("modulo %d: %s writes into %d, %d", g.p, name, short(g.r), short(g.l))
		}
	})
}

func TestAnswersAreTheCallers(t *testing.T) { // R2
	eachCall(func(name string, call call, g gift) {
		handed := g.copied()
		first, second := call(handed), call(handed)
		want := answer{first.number, slices.Clone(first.list), first.err}
		overwrite(first.list)
		if !slices.Equal(handed.r, g.r) || !slices.Equal(handed.l, g.l) || !second.matches(want) {
			t.Errorf("modulo %d: %s of %d, %d answers what is another's", g.p, name, short(g.r), short(g.l))
		}
		overwrite(handed.r)
		overwrite(handed.l)
		if !second.matches(want) {
			t.Errorf("modulo %d: %s answers a piece of %d, %d", g.p, name, short(g.r), short(g.l))
		}
		if third := call(g); !third.matches(want) {
			t.Errorf("modulo %d: %s of %d, %d: got %v after its answer was written into, want %v", g.p, name, short(g.r), short(g.l), third, want)
		}
	})
}

func TestNothingStandsBehindWhatMoreAnswers(t *testing.T) { // the section on ways: it is cut by three indexes
	for many := range 200 {
		l, err := recur.More(7, rule{6, 6}, row{1, 1}, many)
		if err != api.OK || cap(l) != len(l) {
			t.Errorf("More of %d more: got %d numbers, room for %d, error %d", many, len(l), cap(l), int(err))
		}
	}
}

func TestOneListTwice(t *testing.T) { // R2: the rule and the row are one, or pieces of one
	l := row{1, 2, 3, 4}
	for name, call := range calls() {
		for _, p := range []uint64{2, 7, greatest} {
			apart := call(gift{p, slices.Clone(rule(l)), slices.Clone(l), 9, 77})
			if got := call(gift{p, rule(l), l, 9, 77}); !got.matches(apart) {
				t.Errorf("modulo %d: %s of one list twice: got %v, want %v", p, name, got, apart)
			}
			apart = call(gift{p, slices.Clone(rule(l[:2])), slices.Clone(l[1:]), 9, 77})
			if got := call(gift{p, rule(l[:2]), l[1:], 9, 77}); !got.matches(apart) {
				t.Errorf("modulo %d: %s of pieces of a list: got %v, want %v", p, name, got, apart)
			}
		}
	}
	if !slices.Equal(l, row{1, 2, 3, 4}) {
		t.Errorf("%d is written into", l)
	}
}

func TestAnswersHangOnArgumentsAlone(t *testing.T) { // R3
	all := gifts()
	for name, call := range calls() {
		want := make([]answer, len(all))
		for i, g := range all {
			want[i] = call(g)
		}
		for i, g := range slices.Backward(all) {
			if got := call(g); !got.matches(want[i]) {
				t.Errorf("modulo %d: %s of %d, %d: got %v, then %v", g.p, name, short(g.r), short(g.l), want[i], got)
			}
		}
	}
}

func TestCallsBesideOthers(t *testing.T) { // R3
	s := source(51)
	g := gift{greatest, rule(s.words(100)), s.words(200), 300, math.MaxUint64}
	want := map[string]answer{}
	for name, call := range calls() {
		want[name] = call(g)
	}
	var group sync.WaitGroup
	for range 8 {
		group.Go(func() {
			for name, call := range calls() {
				if !call(g).matches(want[name]) {
					t.Errorf("%s beside others answers something else", name)
				}
			}
		})
	}
	group.Wait()
}
