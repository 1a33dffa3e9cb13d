package calc_test

import (
	"slices"
	"testing"

	"vinculum/api"
	"vinculum/bigint"
	"vinculum/calc"
	"vinculum/mpoly"
)

// wantParts holds parts against the terms of which they are to be.
func wantParts(t *testing.T, a mpoly.Poly, v int) {
	t.Helper()
	got, err := calc.Parts(a, v)
	if len(got) != a.In(v)+1 || err != api.OK {
		t.Errorf("Parts of %d terms over %v, by %d: got %d, error %d", a.Len(), a.Ring(), v, len(got), int(err))
		return
	}
	want := make([]plain, len(got))
	for _, x := range a.Terms() {
		n := x.E[v]
		x.E[v] = 0
		if want[n] == nil {
			want[n] = plain{}
		}
		want[n].put(keyOf(x.E), toBig(x.C))
	}
	for i, part := range got {
		wantPoly(t, "a part", a.Ring(), part, api.OK, want[i])
	}
}

func TestParts(t *testing.T) { // P15.4
	s := source(21)
	for _, r := range rings() {
		for _, a := range samples(t, &s, r) {
			for v := range r.Vars {
				wantParts(t, a, v)
			}
		}
	}
}

func TestPartsByHighPowers(t *testing.T) { // P15.4: all powers from the 0th on
	for _, p := range []uint64{0, greatest} {
		r := ring(p, api.GrevLex, 2)
		a := made(t, r, list{3, mostExp, 5}, list{4, mostExp, 0}, list{1, 7, mostExp}, list{-1, 0, 2})
		got, err := calc.Parts(a, 0)
		if len(got) != mostExp+1 || err != api.OK {
			t.Fatalf("got %d, error %d", len(got), int(err))
		}
		none := made(t, r)
		want := map[int]mpoly.Poly{mostExp: made(t, r, list{3, 0, 5}, list{4, 0, 0}), 7: made(t, r, list{1, 0, mostExp}), 0: made(t, r, list{-1, 0, 2})}
		for i, part := range got {
			if w, there := want[i]; there && !part.Is(w) || !there && !part.Is(none) {
				t.Fatalf("modulo %d: the part %d has %d terms, or others", p, i, part.Len())
			}
		}
	}
}

func TestPartsOfNought(t *testing.T) { // P15.4: none
	for _, r := range rings() {
		for v := range r.Vars {
			if got, err := calc.Parts(made(t, r), v); len(got) != 0 || err != api.OK {
				t.Errorf("over %v, by %d: got %d, error %d", r, v, len(got), int(err))
			}
		}
	}
}

func TestPartsByNoVariable(t *testing.T) { // P15.4: ErrArg, of 0 too
	for _, r := range rings() {
		for _, a := range []mpoly.Poly{made(t, r), made(t, r, append(list{1}, make(list, len(r.Vars))...)), {}} {
			for _, v := range wrongPlaces(len(r.Vars)) {
				if got, err := calc.Parts(a, v); len(got) != 0 || err != api.ErrArg {
					t.Errorf("over %v, by %d: got %d, error %d", r, v, len(got), int(err))
				}
			}
		}
	}
	if got, err := calc.Parts(mpoly.Poly{}, 0); len(got) != 0 || err != api.ErrArg {
		t.Errorf("of the zero Poly: got %d, error %d", len(got), int(err))
	}
}

// without are terms of which none has the variable v.
func without(l []mpoly.Term, v int) []mpoly.Term {
	for i := range l {
		l[i].E[v] = 0
	}
	return l
}

func TestJoin(t *testing.T) { // P15.4
	s := source(22)
	for _, r := range rings() {
		for v := range r.Vars {
			for _, n := range []int{0, 1, 2, 5, 40} {
				l := make([]mpoly.Poly, n)
				want := plain{}
				for i := range l {
					l[i] = polyOf(t, r, without(s.terms(s.below(4), len(r.Vars), 5), v))
					for _, x := range l[i].Terms() {
						x.E[v] = i
						want.put(keyOf(x.E), toBig(x.C))
					}
				}
				got, err := calc.Join(r, v, l)
				wantPoly(t, "Join", r, got, err, want)
			}
		}
	}
}

func TestJoinOfOneMoreThanOnce(t *testing.T) { // P15.4: each at its own place
	r := ring(0, api.Lex, 2)
	one, y := made(t, r, list{1, 0, 0}), made(t, r, list{2, 0, 3})
	got, err := calc.Join(r, 0, []mpoly.Poly{y, y, made(t, r), one, y, made(t, r)})
	wantPoly(t, "Join", r, got, err, plainOf(termsOf(list{2, 0, 3}, list{2, 1, 3}, list{1, 3, 0}, list{2, 4, 3})))
	got, err = calc.Join(r, 1, []mpoly.Poly{one, made(t, r, list{-1, mostExp, 0})})
	wantPoly(t, "Join", r, got, err, plainOf(termsOf(list{1, 0, 0}, list{-1, mostExp, 1})))
}

func wantNoJoin(t *testing.T, what string, r api.Ring, v int, l []mpoly.Poly, want api.Errno) {
	t.Helper()
	got, err := calc.Join(r, v, l)
	wantErr(t, "Join, "+what, got, err, want)
}

func TestJoinByNoVariable(t *testing.T) { // P15.4: ErrArg, ahead of all else
	for _, r := range append(rings(), api.Ring{}, ring(9, 0, 2), api.Ring{Vars: []string{"_", "_"}, Order: 1}) {
		a, _ := mpoly.Make(r, nil)
		for _, v := range wrongPlaces(len(r.Vars)) {
			for _, l := range [][]mpoly.Poly{nil, {}, {a}, others(t), {{}}} {
				wantNoJoin(t, "no variable", r, v, l, api.ErrArg)
			}
		}
	}
	wantNoJoin(t, "no variable, and too many", ring(0, api.Lex, 2), 2, make([]mpoly.Poly, mostExp+2), api.ErrArg)
	wantNoJoin(t, "the zero Ring", api.Ring{}, 0, []mpoly.Poly{{}, {}}, api.ErrArg)
}

func TestJoinOfWhatHasTheVariable(t *testing.T) { // P15.4: ErrArg, ahead of ErrRing and ErrLimit
	r := ring(0, api.Lex, 2)
	x, y := made(t, r, list{1, 1, 0}, list{1, 0, 0}), made(t, r, list{1, 0, 1})
	for _, l := range [][]mpoly.Poly{{x}, {y, x}, {x, y}, {y, y, made(t, r, list{1, 0, 5}, list{1, 1, 0})}, append(others(t), x), append([]mpoly.Poly{x}, others(t)...), append(slices.Repeat([]mpoly.Poly{y}, mostExp+1), x), append(others(t), append(make([]mpoly.Poly, mostExp+2), x)...)} {
		wantNoJoin(t, "one has x", r, 0, l, api.ErrArg)
	}
	for _, l := range [][]mpoly.Poly{{y}, {x, y}, append(others(t), y)} {
		wantNoJoin(t, "one has y", r, 1, l, api.ErrArg)
	}
	// Of another ring it is the variable at that place.
	wantNoJoin(t, "one of another ring has it", r, 0, []mpoly.Poly{y, made(t, ring(7, api.GrLex, 3), list{1, 1, 0, 0})}, api.ErrArg)
	wantNoJoin(t, "one of another ring has another one", r, 0, []mpoly.Poly{y, made(t, ring(7, api.GrLex, 3), list{1, 0, 1, 1})}, api.ErrRing)
}

func TestJoinOfOtherRings(t *testing.T) { // P15.4: ErrRing, ahead of ErrLimit
	r := ring(0, api.Lex, 2)
	y := made(t, r, list{1, 0, 1})
	for _, b := range others(t) {
		for _, l := range [][]mpoly.Poly{{b}, {y, b}, {b, y}, {y, y, b, y}} {
			wantNoJoin(t, "one of another ring", r, 0, l, api.ErrRing)
		}
	}
	wantNoJoin(t, "too many, one of another ring", r, 0, append(slices.Repeat([]mpoly.Poly{y}, mostExp+1), mpoly.Poly{}), api.ErrRing)
	wantNoJoin(t, "too many zero Polys", r, 0, make([]mpoly.Poly, mostExp+2), api.ErrRing)
	// A ring that may not be has no polynomials; that of none is none.
	for _, c := range []struct {
		r    api.Ring
		want api.Errno
	}{{ring(0, 0, 2), api.ErrArg}, {ring(0, 4, 2), api.ErrArg}, {api.Ring{Vars: make([]string, 9), Order: 1}, api.ErrArg}, {api.Ring{Vars: []string{"x", "x"}, Order: 1}, api.ErrName}, {ring(9, 1, 2), api.ErrPrime}, {ring(1<<63+29, 1, 2), api.ErrPrime}} {
		wantNoJoin(t, "a ring that may not be", c.r, 0, nil, c.want)
		wantNoJoin(t, "a ring that may not be, and a polynomial", c.r, 0, []mpoly.Poly{y}, api.ErrRing)
	}
}

func TestJoinOfMany(t *testing.T) { // P15.4: up to 1048577
	for _, p := range []uint64{0, greatest} {
		r := ring(p, api.GrLex, 2)
		none, y := made(t, r), made(t, r, list{1, 0, 1}, list{-2, 0, 0})
		l := slices.Repeat([]mpoly.Poly{none}, mostExp+1)
		got, err := calc.Join(r, 0, l)
		wantPoly(t, "Join of as many as may be, all 0", r, got, err, plain{})
		l[mostExp], l[5] = y, y
		got, err = calc.Join(r, 0, l)
		wantPoly(t, "Join of as many as may be", r, got, err, plainOf(termsOf(list{1, mostExp, 1}, list{-2, mostExp, 0}, list{1, 5, 1}, list{-2, 5, 0})))
		for _, more := range []int{1, 2, 1000} {
			wantNoJoin(t, "too many, all 0", r, 0, slices.Repeat([]mpoly.Poly{none}, mostExp+1+more), api.ErrLimit)
			wantNoJoin(t, "too many", r, 1, append(slices.Clone(l[:5]), slices.Repeat([]mpoly.Poly{none}, mostExp-4+more)...), api.ErrLimit)
		}
	}
}

func TestJoinToManyTerms(t *testing.T) { // P15.4, P14.3: no polynomial has more than 100000 terms
	for _, p := range []uint64{0, 2} {
		r := ring(p, api.Lex, 2)
		half, one := polyOf(t, r, row(mostTerms/2, 0, 1, 1, 2)), made(t, r, list{1, 0, 0})
		got, err := calc.Join(r, 0, []mpoly.Poly{half, made(t, r), half})
		if got.Len() != mostTerms || err != api.OK || got.In(0) != 2 || got.In(1) != mostTerms/2-1 {
			t.Errorf("Join of as many terms as may be: got %d, error %d", got.Len(), int(err))
		}
		for _, l := range [][]mpoly.Poly{{half, half, one}, {one, half, half}, {half, half, half, half}, slices.Repeat([]mpoly.Poly{half}, 3000), slices.Repeat([]mpoly.Poly{one}, mostTerms+1)} {
			wantNoJoin(t, "too many terms", r, 0, l, api.ErrLimit)
		}
		got, err = calc.Join(r, 0, slices.Repeat([]mpoly.Poly{one}, mostTerms))
		wantSame(t, "Join of one term again and again", got, polyOf(t, r, row(mostTerms, 0, 1, 0, 2)))
		if err != api.OK {
			t.Errorf("error %d", int(err))
		}
	}
}

func TestJoinIsOfRingsThatAreTheSame(t *testing.T) { // P15.4: not of where their names stand
	a := made(t, ring(0, api.Lex, 2), list{1, 0, 1})
	got, err := calc.Join(api.Ring{Vars: append([]string{"x"}, "y"), Order: api.Lex}, 0, []mpoly.Poly{a, a})
	wantPoly(t, "Join", ring(0, api.Lex, 2), got, err, plainOf(termsOf(list{1, 0, 1}, list{1, 1, 1})))
	only := polyOf(t, api.Ring{Vars: []string{"q"}, Order: api.GrLex}, []mpoly.Term{{E: list{0}, C: bigint.Of(4)}})
	got, err = calc.Join(only.Ring(), 0, []mpoly.Poly{only})
	wantPoly(t, "Join of one", only.Ring(), got, err, plainOf(only.Terms()))
}
