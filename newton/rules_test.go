package newton_test

import (
	"math"
	"slices"
	"sync"
	"testing"

	"vinculum/api"
	"vinculum/newton"
)

// answer is what a call answers.
type answer struct {
	list row
	err  api.Errno
}

func (a answer) matches(b answer) bool { return slices.Equal(a.list, b.list) && a.err == b.err }

// gift is what the calls are handed: a prime, places, and values, coefficients or sums.
type gift struct {
	p    uint64
	l, v row
}

func (g gift) copied() gift { return gift{g.p, slices.Clone(g.l), slices.Clone(g.v)} }

type call func(g gift) answer

// calls are all that take lists.
func calls() map[string]call {
	return map[string]call{
		"Values": func(g gift) answer {
			v, err := newton.Values(g.p, g.v, g.l)
			return answer{v, err}
		},
		"Fit": func(g gift) answer {
			a, err := newton.Fit(g.p, g.l, g.v)
			return answer{row(a), err}
		},
		"Sums": func(g gift) answer {
			c, err := newton.Sums(g.p, g.l, g.v)
			return answer{c, err}
		},
	}
}

// gifts are such as calls take, and such as they do not.
func gifts() []gift {
	s := source(51)
	lists := []row{nil, {}, {0}, {1}, {7}, {0, 1}, {7, 14}, {1, 6, 8}, {1, 2, 3}, {math.MaxUint64, 0, greatest - 1, 3}, {0, 1, 2, 3, 4, 5, 6}, rowTo(9), s.words(30), s.places(30, greatest), s.places(100, greatest), s.words(100), make(row, most+1)}
	var all []gift
	for _, p := range []uint64{2, 7, greatest, 0, 1, 9, 1 << 63, math.MaxUint64} {
		for _, l := range lists {
			for _, v := range lists {
				all = append(all, gift{p, l, v})
			}
		}
	}
	return all
}

func eachCall(do func(name string, call call, g gift)) {
	all := gifts()
	for name, call := range calls() {
		for _, g := range all {
			do(name, call, g)
		}
	}
}

// anyTwice tells whether two numbers are the same modulo p.
func anyTwice(l row, p uint64) bool {
	sorted := slices.Sorted(slices.Values(left(l, p)))
	return len(slices.Compact(sorted)) < len(l)
}

// errorOf is the error that a call is to answer.
func errorOf(name string, g gift) api.Errno {
	switch {
	case !slices.Contains(primes(), g.p):
		return api.ErrPrime
	case name != "Values" && len(g.l) != len(g.v):
		return api.ErrArg
	case len(g.l) > most:
		return api.ErrLimit
	case name != "Values" && anyTwice(g.l, g.p):
		return api.ErrInexact
	default:
		return api.OK
	}
}

func TestErrorsStandAlone(t *testing.T) { // R1
	eachCall(func(name string, call call, g gift) {
		got := call(g)
		if got.err != errorOf(name, g) {
			t.Errorf("%s of %d, %d, %d: got the error %d", name, g.p, short(g.l), short(g.v), int(got.err))
		}
		if got.err != api.OK && len(got.list) > 0 {
			t.Errorf("%s of %d, %d, %d: got %d beside an error", name, g.p, short(g.l), short(g.v), short(got.list))
		}
	})
}

func TestAllIsModuloThePrime(t *testing.T) { // P12.1, P12.2
	eachCall(func(name string, call call, g gift) {
		got := call(g)
		if got.err != api.OK {
			return
		}
		if !slices.Equal(got.list, left(got.list, g.p)) {
			t.Errorf("modulo %d: %s of %d, %d: got %d", g.p, name, short(g.l), short(g.v), short(got.list))
		}
		same := g.copied()
		for _, l := range []row{same.l, same.v} {
			for i, x := range l {
				l[i] = x%g.p + g.p
			}
		}
		if other := call(same); !other.matches(got) {
			t.Errorf("modulo %d: %s of %d, %d: got %v, want %v", g.p, name, short(same.l), short(same.v), short(other.list), short(got.list))
		}
	})
}

// behind is a list with something behind its length.
func behind(l row) row { return append(slices.Clone(l), 77, 1, 0, 5)[:len(l)] }

func whole(l row) row { return l[:cap(l)] }

func overwrite(l row) {
	l = whole(l)
	for i := range l {
		l[i] = ^l[i]
	}
}

func TestNothingIsWrittenInto(t *testing.T) { // R2: nor what stands behind a list's length
	eachCall(func(name string, call call, g gift) {
		want := call(g)
		handed := gift{g.p, behind(g.l), behind(g.v)}
		l, v := slices.Clone(whole(handed.l)), slices.Clone(whole(handed.v))
		if got := call(handed); !got.matches(want) {
			t.Errorf("modulo %d: %s of %d, %d: got %d, then %d", g.p, name, short(g.l), short(g.v), short(want.list), short(got.list))
		}
		if !slices.Equal(whole(handed.l), l) || !slices.Equal(whole(handed.v), v) {
			t.Errorf("modulo %d: %s writes into %d, %d", g.p, name, short(g.l), short(g.v))
		}
	})
}

func TestAnswersAreTheCallers(t *testing.T) { // R2
	eachCall(func(name string, call call, g gift) {
		handed := g.copied()
		first, second := call(handed), call(handed)
		want := answer{slices.Clone(first.list), first.err}
		overwrite(first.list)
		if !slices.Equal(handed.l, g.l) || !slices.Equal(handed.v, g.v) || !second.matches(want) {
			t.Errorf("modulo %d: %s of %d, %d answers what is another's", g.p, name, short(g.l), short(g.v))
		}
		overwrite(handed.l)
		overwrite(handed.v)
		if !second.matches(want) {
			t.Errorf("modulo %d: %s answers a piece of %d, %d", g.p, name, short(g.l), short(g.v))
		}
		if third := call(g); !third.matches(want) {
			t.Errorf("modulo %d: %s of %d, %d: got %d after its answer was written into, want %d", g.p, name, short(g.l), short(g.v), short(third.list), short(want.list))
		}
	})
}

func TestOneListTwice(t *testing.T) { // R2: both arguments are one, or pieces of one
	kept := rowTo(30)
	l := slices.Clone(kept)
	for _, p := range []uint64{2, 97, greatest} {
		for name, call := range calls() {
			apart := call(gift{p, slices.Clone(l), slices.Clone(l)})
			if got := call(gift{p, l, l}); !got.matches(apart) {
				t.Errorf("modulo %d: %s of one list twice: got %d, want %d", p, name, short(got.list), short(apart.list))
			}
			apart = call(gift{p, slices.Clone(l[:25]), slices.Clone(l[5:])})
			if got := call(gift{p, l[:25], l[5:]}); !got.matches(apart) {
				t.Errorf("modulo %d: %s of pieces of a list: got %d, want %d", p, name, short(got.list), short(apart.list))
			}
		}
	}
	if !slices.Equal(l, kept) {
		t.Errorf("%d is written into", l)
	}
}

func TestAnswersHangOnArgumentsAlone(t *testing.T) { // R3
	all := gifts()
	for name, call := range calls() {
		want := make([]answer, len(all))
		for i, g := range all {
			want[i] = call(g)
		}
		for i, g := range slices.Backward(all) {
			if got := call(g); !got.matches(want[i]) {
				t.Errorf("modulo %d: %s of %d, %d: got %d, then %d", g.p, name, short(g.l), short(g.v), short(want[i].list), short(got.list))
			}
		}
	}
}

func TestCallsBesideOthers(t *testing.T) { // R3
	s := source(52)
	g := gift{greatest, s.places(300, greatest), s.words(300)}
	want := map[string]answer{}
	for name, call := range calls() {
		want[name] = call(g)
	}
	var group sync.WaitGroup
	for range 8 {
		group.Go(func() {
			for name, call := range calls() {
				if !call(g).matches(want[name]) {
					t.Errorf("%s beside others answers something else", name)
				}
			}
			r, _ := newton.New(g.p)
			for i, x := range g.l {
				r.Add(x, g.v[i])
			}
			if !slices.Equal(row(r.Poly()), want["Fit"].list) {
				t.Errorf("a row beside others comes to something else")
			}
		})
	}
	group.Wait()
}
