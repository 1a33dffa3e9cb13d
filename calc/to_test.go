package calc_test

import (
	"slices"
	"testing"

	"vinculum/api"
	"vinculum/calc"
	"vinculum/mpoly"
)

func TestTo(t *testing.T) { // P15.4: to each order, from the integers to each prime, and to the same one
	s := source(41)
	for _, r := range rings() {
		for _, a := range samples(t, &s, r) {
			for _, order := range orders() {
				for _, p := range []uint64{0, 2, 7, 998244353, greatest} {
					to := api.Ring{P: p, Vars: r.Vars, Order: order}
					got, err := calc.To(a, to)
					if r.P != 0 && p != r.P {
						wantErr(t, "To another prime", got, err, api.ErrRing)
						continue
					}
					wantPoly(t, "To", to, got, err, plainOf(a.Terms()))
				}
			}
		}
	}
}

func TestToExamples(t *testing.T) { // P15.4
	rows := []list{{8, 1, 0}, {7, 0, 3}, {-1, 0, 0}}
	a := made(t, ring(0, api.Lex, 2), rows...)
	got, err := calc.To(a, ring(7, api.GrLex, 2))
	if !got.Is(made(t, ring(7, api.GrLex, 2), list{1, 1, 0}, list{6, 0, 0})) || err != api.OK || got.Len() != 2 {
		t.Errorf("To modulo 7: got %d terms, error %d", got.Len(), int(err))
	}
	got, err = calc.To(a, ring(0, api.GrLex, 2))
	if c := got.Terms()[0].C.Print(); !got.Is(made(t, ring(0, api.GrLex, 2), rows...)) || err != api.OK || c != "7" {
		t.Errorf("To GrLex: got %d terms, the first one %s, error %d", got.Len(), c, int(err))
	}
	got, err = calc.To(made(t, ring(0, api.Lex, 2), list{14, 1, 1}), ring(7, api.Lex, 2))
	wantPoly(t, "To modulo what divides all", ring(7, api.Lex, 2), got, err, plain{})
	many := polyOf(t, ring(0, api.Lex, 1), row(mostTerms, 0, -1, 0, 1))
	got, err = calc.To(many, ring(greatest, api.GrevLex, 1))
	wantPoly(t, "To, of many terms", ring(greatest, api.GrevLex, 1), got, err, plainOf(many.Terms()))
}

func TestToRingsThatMayNotBe(t *testing.T) { // P15.4: Check's error, ahead of ErrRing
	bad := []struct {
		r    api.Ring
		want api.Errno
	}{
		{api.Ring{}, api.ErrArg}, {ring(0, 0, 2), api.ErrArg}, {ring(0, 4, 2), api.ErrArg}, {ring(9, -1, 2), api.ErrArg}, {api.Ring{Vars: make([]string, 9), Order: 1}, api.ErrArg}, {api.Ring{Vars: []string{"x", "x"}, Order: 1}, api.ErrName}, {api.Ring{P: 9, Vars: []string{"_", "y"}, Order: 1}, api.ErrName}, {ring(8, 1, 2), api.ErrPrime}, {ring(1, 1, 2), api.ErrPrime}, {ring(9, 1, 3), api.ErrPrime}, {ring(1<<63+29, 1, 2), api.ErrPrime},
	}
	for _, c := range bad {
		for _, a := range append(others(t), made(t, ring(0, api.Lex, 2), list{1, 1, 0}), made(t, ring(0, api.Lex, 2))) {
			got, err := calc.To(a, c.r)
			wantErr(t, "To a ring that may not be", got, err, c.want)
		}
	}
}

func TestToOtherRings(t *testing.T) { // P15.4: ErrRing, of 0 too
	vars := [][]string{nil, {"x"}, {"x", "y"}, {"y", "x"}, {"x", "z"}, {"x", "y", "z"}, {"X", "y"}}
	for i, from := range vars {
		for j, to := range vars {
			for _, p := range []uint64{0, 2, 7} {
				for _, q := range []uint64{0, 2, 7} {
					for _, rows := range [][]list{nil, {append(list{1}, make(list, len(from))...)}} {
						a, r := made(t, api.Ring{P: p, Vars: from, Order: api.Lex}, rows...), api.Ring{P: q, Vars: to, Order: api.GrevLex}
						got, err := calc.To(a, r)
						if i == j && (p == 0 || p == q) {
							wantPoly(t, "To", r, got, err, plainOf(a.Terms()))
						} else {
							wantErr(t, "To another ring", got, err, api.ErrRing)
						}
					}
				}
			}
		}
	}
}

func TestToOfTheZeroPoly(t *testing.T) { // P15.4: its ring has no variables, and P 0
	for _, p := range []uint64{0, 7} {
		for _, names := range [][]string{nil, {}} {
			r := api.Ring{P: p, Vars: names, Order: api.Lex}
			got, err := calc.To(mpoly.Poly{}, r)
			wantPoly(t, "To, of the zero Poly", r, got, err, plain{})
		}
		got, err := calc.To(mpoly.Poly{}, ring(p, api.Lex, 1))
		wantErr(t, "To, of the zero Poly", got, err, api.ErrRing)
	}
}

func TestToKeepsNoNames(t *testing.T) { // R2
	r := ring(7, api.Lex, 2)
	r.Vars = slices.Clone(r.Vars)
	got, _ := calc.To(made(t, ring(0, api.Lex, 2), list{1, 1, 0}), r)
	r.Vars[0] = "other"
	wantSame(t, "To", got, made(t, ring(7, api.Lex, 2), list{1, 1, 0}))
}
