package kron_test

import (
	"slices"
	"testing"

	"vinculum/api"
	"vinculum/kron"
	"vinculum/mpoly"
)

// basesOf is what Bases is to answer, by the terms alone.
func basesOf(a, b mpoly.Poly) list {
	base := slices.Repeat(list{1}, len(a.Ring().Vars))
	if a.Len() == 0 || b.Len() == 0 {
		return base
	}
	for v := range base {
		for _, f := range []mpoly.Poly{a, b} {
			highest := 0
			for _, x := range f.Terms() {
				highest = max(highest, x.E[v])
			}
			base[v] += highest
		}
	}
	return base
}

func wantBases(t *testing.T, what string, a, b mpoly.Poly, want list, err api.Errno) {
	t.Helper()
	if got, e := kron.Bases(a, b); !slices.Equal(got, want) || e != err {
		t.Errorf("Bases of %s, over %v: got %d, error %d, want %d, error %d", what, a.Ring(), got, int(e), want, int(err))
	}
}

func TestMost(t *testing.T) {
	if kron.Most != mostPlaces {
		t.Errorf("Most is %d", kron.Most)
	}
}

func TestBasesExamples(t *testing.T) { // P17.1
	xy := ring(7, api.Lex, 2)
	one := func(x, y int) mpoly.Poly { return made(t, xy, list{1, x, y}) }
	wantBases(t, "x^2 y and x", one(2, 1), one(1, 0), list{4, 2}, api.OK)
	wantBases(t, "1 and 1", one(0, 0), one(0, 0), list{1, 1}, api.OK)
	wantBases(t, "y^3 and y^4", one(0, 3), one(0, 4), list{1, 8}, api.OK)
	wantBases(t, "the highest ones", one(mostExp, mostExp), one(mostExp, 5), list{2*mostExp + 1, mostExp + 6}, api.OK)
	sum := made(t, xy, list{1, 9, 0}, list{1, 0, 5}, list{1, 3, 3})
	wantBases(t, "sums", sum, made(t, xy, list{1, 0, 7}, list{1, 2, 0}), list{12, 13}, api.OK)
	wantBases(t, "a sum, twice", sum, sum, list{19, 11}, api.OK)
	wantBases(t, "what is 0 modulo 7", made(t, xy, list{7, 9, 0}, list{1, 1, 1}), one(1, 0), list{3, 2}, api.OK)
}

func TestBases(t *testing.T) { // P17.1
	s := source(1)
	for _, r := range append(rings(), ring(0, api.Lex, 2), ring(0, api.GrLex, 8)) {
		all := append(samples(t, &s, r), s.poly(t, r, 4, mostExp+1))
		for _, a := range all {
			b := all[s.below(len(all))]
			wantBases(t, "samples", a, b, basesOf(a, b), api.OK)
			wantBases(t, "samples, the other way about", b, a, basesOf(a, b), api.OK)
		}
	}
}

func TestBasesOfNought(t *testing.T) { // P17.1: 1 of each variable
	s := source(2)
	for _, r := range rings() {
		none, one, high := made(t, r), slices.Repeat(list{1}, len(r.Vars)), s.poly(t, r, 9, mostExp+1)
		wantBases(t, "0 and 0", none, none, one, api.OK)
		wantBases(t, "0 and a polynomial", none, high, one, api.OK)
		wantBases(t, "a polynomial and 0", high, none, one, api.OK)
	}
	wantBases(t, "zero Polys", mpoly.Poly{}, mpoly.Poly{}, nil, api.OK)
}

func TestBasesOfOtherRings(t *testing.T) { // P17.1
	xy := ring(7, api.Lex, 2)
	for _, a := range []mpoly.Poly{made(t, xy), made(t, xy, list{1, 1, 0}), made(t, xy, list{1, mostExp, 0})} {
		for _, b := range others(t) {
			wantBases(t, "another ring", a, b, nil, api.ErrRing)
			wantBases(t, "another ring", b, a, nil, api.ErrRing)
		}
	}
}
