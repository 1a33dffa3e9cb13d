package roots_test

import (
	"math"
	"slices"
	"sync"
	"testing"

	"vinculum/api"
	"vinculum/roots"
)

// answer is what a call answers.
type answer struct {
	number int
	list   row
	err    api.Errno
}

func (a answer) matches(b answer) bool {
	return a.number == b.number && slices.Equal(a.list, b.list) && a.err == b.err
}

// gift is what the calls are handed, each as much of it as it takes.
type gift struct {
	p    uint64
	a    poly
	l    row
	x, y uint64
}

func (g gift) copied() gift {
	g.a, g.l = slices.Clone(g.a), slices.Clone(g.l)
	return g
}

type call func(g gift) answer

func number(is bool) int {
	if is {
		return 1
	}
	return 0
}

// calls are all of the package.
func calls() map[string]call {
	return map[string]call{
		"Roots": func(g gift) answer {
			// As many seeds as From takes numbers would take long where none of them tells.
			l, err := roots.Roots(g.p, g.a, g.l[:min(len(g.l), 50)])
			return answer{0, l, err}
		},
		"Linear": func(g gift) answer {
			d, err := roots.Linear(g.p, g.a)
			return answer{0, row(d), err}
		},
		"Times": func(g gift) answer {
			n, err := roots.Times(g.p, g.a, g.x)
			return answer{n, nil, err}
		},
		"From": func(g gift) answer {
			a, err := roots.From(g.p, g.l)
			return answer{0, row(a), err}
		},
		"Tells": func(g gift) answer {
			is, err := roots.Tells(g.p, g.y, g.x, g.y)
			return answer{number(is), nil, err}
		},
	}
}

// gifts are such as calls take, and such as they do not.
func gifts() []gift {
	polys := []poly{nil, {}, {0}, {1}, {7}, {0, 1}, {6, 0, 1}, {14, 7, 0}, {0, 0, 3, 0, 0}, {1, 6, 6, 1}, {math.MaxUint64, greatest, 5, 0, 8}, fromOf(7, seedsTo(7)), fromOf(greatest, seedsTo(30))}
	lists := []row{nil, {}, {0}, {1}, {7, 14}, {1, 6, 8}, {math.MaxUint64, 0, greatest, 3}, seedsTo(40), make(row, 2001)}
	var all []gift
	for _, p := range []uint64{2, 7, greatest, 0, 1, 9, 1 << 63, math.MaxUint64} {
		for _, a := range polys {
			for _, l := range lists {
				x := []uint64{0, 1, 6, 7, math.MaxUint64}[len(all)%5]
				y := []uint64{0, 1, 5, greatest}[len(all)%4]
				all = append(all, gift{p, a, l, x, y})
			}
		}
	}
	return all
}

func eachCall(do func(name string, call call, g gift)) {
	for name, call := range calls() {
		for _, g := range gifts() {
			do(name, call, g)
		}
	}
}

// errorOf is the error that a call is to answer.
func errorOf(name string, g gift) api.Errno {
	switch {
	case !slices.Contains(primes(), g.p):
		return api.ErrPrime
	case name == "From" && len(g.l) > 2000:
		return api.ErrLimit
	case name != "From" && name != "Tells" && isZero(g.a, g.p):
		return api.ErrArg
	case name == "Roots" && g.p == 7 && !allTold(7, rootsOf(7, g.a), g.l):
		return api.ErrBudget
	default:
		return api.OK
	}
}

func TestErrorsStandAlone(t *testing.T) { // R1
	eachCall(func(name string, call call, g gift) {
		got := call(g)
		// Of the greatest prime it is not known which roots there are.
		if got.err != errorOf(name, g) && !(name == "Roots" && g.p == greatest && got.err == api.ErrBudget) {
			t.Errorf("%s of %d, %d, %d, %d, %d: got the error %d", name, g.p, short(g.a), short(g.l), g.x, g.y, int(got.err))
		}
		if got.err != api.OK && !got.matches(answer{err: got.err}) {
			t.Errorf("%s of %d, %d, %d, %d, %d: got %v beside an error", name, g.p, short(g.a), short(g.l), g.x, g.y, got)
		}
	})
}

func TestAllIsModuloThePrime(t *testing.T) { // P11.1, P11.2
	eachCall(func(name string, call call, g gift) {
		got := call(g)
		if got.err != api.OK {
			return
		}
		if slices.ContainsFunc(got.list, func(x uint64) bool { return x >= g.p }) {
			t.Errorf("modulo %d: %s of %d, %d: got %v", g.p, name, short(g.a), short(g.l), got)
		}
		same := g.copied()
		for _, l := range []row{same.a, same.l} {
			for i, x := range l {
				l[i] = x%g.p + g.p
			}
		}
		same.a, same.x, same.y = append(same.a, 0, g.p), g.x%g.p+g.p, g.y%g.p
		if other := call(same); !other.matches(got) {
			t.Errorf("modulo %d: %s of %d, %d: got %v, want %v", g.p, name, short(same.a), short(same.l), other, got)
		}
	})
}

// behind is a list with something behind its length.
func behind(l row) row { return append(slices.Clone(l), 77, 1, 0, 5)[:len(l)] }

func whole(l row) row { return l[:cap(l)] }

func overwrite(l row) {
	l = whole(l)
	for i := range l {
		l[i] = ^l[i]
	}
}

func TestNothingIsWrittenInto(t *testing.T) { // R2: nor what stands behind a list's length
	eachCall(func(name string, call call, g gift) {
		want := call(g)
		handed := gift{g.p, behind(g.a), behind(g.l), g.x, g.y}
		a, l := slices.Clone(whole(handed.a)), slices.Clone(whole(handed.l))
		if got := call(handed); !got.matches(want) {
			t.Errorf("modulo %d: %s of %d, %d: got %v, then %v", g.p, name, short(g.a), short(g.l), want, got)
		}
		if !slices.Equal(whole(handed.a), a) || !slices.Equal(whole(handed.l), l) {
			t.Errorf("modulo %d: %s writes into %d, %d", g.p, name, short(g.a), short(g.l))
		}
	})
}

func TestAnswersAreTheCallers(t *testing.T) { // R2
	eachCall(func(name string, call call, g gift) {
		handed := g.copied()
		first, second := call(handed), call(handed)
		want := answer{first.number, slices.Clone(first.list), first.err}
		overwrite(first.list)
		if !slices.Equal(handed.a, g.a) || !slices.Equal(handed.l, g.l) || !second.matches(want) {
			t.Errorf("modulo %d: %s of %d, %d answers what is another's", g.p, name, short(g.a), short(g.l))
		}
		overwrite(handed.a)
		overwrite(handed.l)
		if !second.matches(want) {
			t.Errorf("modulo %d: %s answers a piece of %d, %d", g.p, name, short(g.a), short(g.l))
		}
		if third := call(g); !third.matches(want) {
			t.Errorf("modulo %d: %s of %d, %d: got %v after its answer was written into, want %v", g.p, name, short(g.a), short(g.l), third, want)
		}
	})
}

func TestOneListTwice(t *testing.T) { // R2: the polynomial and the seeds are one, or pieces of one
	l := row{0, 6, 0, 0, 0, 0, 0, 1}
	for _, p := range []uint64{2, 7, greatest} {
		for name, call := range calls() {
			apart := call(gift{p, slices.Clone(l), slices.Clone(l), 1, 2})
			if got := call(gift{p, l, l, 1, 2}); !got.matches(apart) {
				t.Errorf("modulo %d: %s of one list twice: got %v, want %v", p, name, got, apart)
			}
			apart = call(gift{p, slices.Clone(l[:2]), slices.Clone(l[1:]), 1, 2})
			if got := call(gift{p, l[:2], l[1:], 1, 2}); !got.matches(apart) {
				t.Errorf("modulo %d: %s of pieces of a list: got %v, want %v", p, name, got, apart)
			}
		}
	}
	if !slices.Equal(l, row{0, 6, 0, 0, 0, 0, 0, 1}) {
		t.Errorf("%d is written into", l)
	}
}

func TestAnswersHangOnArgumentsAlone(t *testing.T) { // R3
	all := gifts()
	for name, call := range calls() {
		want := make([]answer, len(all))
		for i, g := range all {
			want[i] = call(g)
		}
		for i, g := range slices.Backward(all) {
			if got := call(g); !got.matches(want[i]) {
				t.Errorf("modulo %d: %s of %d, %d: got %v, then %v", g.p, name, short(g.a), short(g.l), want[i], got)
			}
		}
	}
}

func TestCallsBesideOthers(t *testing.T) { // R3
	g := gift{greatest, fromOf(greatest, seedsTo(60)), seedsTo(100), 5, 6}
	want := map[string]answer{}
	for name, call := range calls() {
		want[name] = call(g)
	}
	var group sync.WaitGroup
	for range 8 {
		group.Go(func() {
			for name, call := range calls() {
				if !call(g).matches(want[name]) {
					t.Errorf("%s beside others answers something else", name)
				}
			}
		})
	}
	group.Wait()
}
