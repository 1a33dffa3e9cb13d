package kron_test

import (
	"math/big"
	"slices"
	"testing"

	"vinculum/api"
	"vinculum/kron"
	"vinculum/mpoly"
	"vinculum/upoly"
)

// productOf is that of a base, however great.
func productOf(base list) *big.Int {
	n := big.NewInt(1)
	for _, b := range base {
		n.Mul(n, big.NewInt(int64(b)))
	}
	return n
}

func isMore(base list, most int64) bool { return productOf(base).Cmp(big.NewInt(most)) > 0 }

func isBelowOne(x int) bool { return x < 1 }

// packOf is the sum of the exponents, each times what the bases ahead of it come to.
func packOf(e, base list) (*big.Int, api.Errno) {
	if len(e) != len(base) || slices.ContainsFunc(base, isBelowOne) {
		return nil, api.ErrArg
	}
	place := new(big.Int)
	for i, x := range e {
		if x >= base[i] {
			return nil, api.ErrArg
		}
		n := productOf(base[:i])
		place.Add(place, n.Mul(n, big.NewInt(int64(x))))
	}
	if isMore(base, mostPacks) {
		return nil, api.ErrLimit
	}
	return place, api.OK
}

// flatOf is what Flat is to answer: a coefficient for each place, or an error.
func flatOf(a mpoly.Poly, base list) (map[int]uint64, api.Errno) {
	if a.Ring().P == 0 {
		return nil, api.ErrArg
	}
	f, high := map[int]uint64{}, false
	for _, x := range a.Terms() {
		place, err := packOf(x.E, base)
		if err != api.OK {
			return nil, err
		}
		if place.Cmp(big.NewInt(mostPlaces)) >= 0 {
			high = true
			continue
		}
		f[int(place.Int64())] = toBig(x.C).Uint64()
	}
	if high {
		return nil, api.ErrLimit
	}
	return f, api.OK
}

// wantFlat holds Flat against flatOf, and answers its error.
func wantFlat(t *testing.T, what string, a mpoly.Poly, base list) api.Errno {
	t.Helper()
	want, err := flatOf(a, base)
	got, e := kron.Flat(a, base)
	if e != err || err != api.OK && got != nil {
		t.Errorf("Flat of %s by %d: got %d coefficients, error %d, want the error %d", what, base, len(got), int(e), int(err))
		return e
	}
	there := 0
	for place, c := range got {
		if c != want[place] {
			t.Errorf("Flat of %s by %d: got %d at %d, want %d", what, base, c, place, want[place])
			return e
		}
		if c != 0 {
			there++
		}
	}
	if there != len(want) || len(got) > 0 && got[len(got)-1] == 0 {
		t.Errorf("Flat of %s by %d: got %d coefficients of %d, or 0 at the end", what, base, there, len(want))
	}
	return e
}

func wantFlatErr(t *testing.T, what string, a mpoly.Poly, base list, want api.Errno) {
	t.Helper()
	if err := wantFlat(t, what, a, base); err != want {
		t.Errorf("Flat of %s by %d: error %d, want %d", what, base, int(err), int(want))
	}
}

func TestFlatExamples(t *testing.T) { // P17.2
	a := made(t, ring(7, api.Lex, 2), list{1, 1, 0}, list{2, 0, 1})
	for _, c := range []struct {
		base list
		want upoly.Poly
	}{{list{4, 2}, upoly.Poly{0, 1, 0, 0, 2}}, {list{2, 2}, upoly.Poly{0, 1, 2}}, {list{3, 100}, upoly.Poly{0, 1, 0, 2}}} {
		if got, err := kron.Flat(a, c.base); !slices.Equal(got, c.want) || err != api.OK {
			t.Errorf("Flat of x + 2y by %d: got %d, error %d, want %d", c.base, got, int(err), c.want)
		}
	}
}

// base is a number for each variable, such that exponents below a number fit in: most often.
func (s *source) base(vars, below int) list {
	base := make(list, vars)
	for v := range base {
		base[v] = below + s.below(2+below/4)
		if s.below(40) == 0 {
			base[v] = []int{0, -1, 1, below - 1, mostPlaces, 1 << 40, 1 << 62, -1 << 63}[s.below(8)]
		}
	}
	if s.below(20) == 0 {
		return append(base, 1)[s.below(2):]
	}
	return base
}

func TestFlat(t *testing.T) { // P17.2
	s := source(11)
	errs := map[api.Errno]int{}
	for _, r := range rings() {
		for range 60 {
			below := 1 + s.below(1+64>>len(r.Vars))
			errs[wantFlat(t, "samples", s.poly(t, r, s.below(40), below), s.base(len(r.Vars), below))]++
		}
	}
	if len(errs) != 3 || errs[api.OK] < 2000 || errs[api.ErrArg] < 100 || errs[api.ErrLimit] < 20 {
		t.Errorf("too few of each: %v", errs)
	}
}

func TestFlatOverTheIntegers(t *testing.T) { // P17.2: ErrArg, ahead of all else
	for _, a := range []mpoly.Poly{{}, made(t, ring(0, api.Lex, 2)), made(t, ring(0, api.Lex, 2), list{1, 1, 0}), made(t, ring(0, api.GrLex, 2), list{1, mostExp, 0})} {
		for _, base := range []list{nil, {}, {1, 1}, {2, 1}, {1 << 52, 2}, {0}, {mostExp + 1, 1}} {
			wantFlatErr(t, "one over the integers", a, base, api.ErrArg)
		}
	}
}

func TestFlatOfNought(t *testing.T) { // P17.2: no term, no error
	for _, r := range rings() {
		for _, base := range []list{nil, {}, {1, 1}, {0, -1}, {1 << 62, 1 << 62}, {1, 2, 3, 4, 5, 6, 7, 8, 9}} {
			wantFlatErr(t, "0", made(t, r), base, api.OK)
		}
	}
}

func TestFlatOfNumbers(t *testing.T) { // P17.2
	for _, p := range []uint64{2, 7, 998244353, greatest} {
		for _, n := range []int{1, -1, 3, -5} {
			wantFlatErr(t, "a number", number(t, ring(p, api.Lex, 0), n), nil, api.OK)
			wantFlatErr(t, "a number", number(t, ring(p, api.Lex, 0), n), list{1}, api.ErrArg)
			wantFlatErr(t, "a number", number(t, ring(p, api.Lex, 2), n), list{1, 1}, api.OK)
			wantFlatErr(t, "a number", number(t, ring(p, api.Lex, 2), n), list{1 << 26, 1 << 26}, api.OK)
		}
	}
}

func TestFlatPacks(t *testing.T) { // P17.2: Pack's errors
	xy := ring(7, api.Lex, 2)
	a := made(t, xy, list{1, 3, 0}, list{2, 0, 5}, list{3, 1, 1})
	for _, c := range []struct {
		base list
		want api.Errno
	}{
		{list{4, 6}, api.OK}, {list{3, 6}, api.ErrArg}, {list{4, 5}, api.ErrArg}, {list{4}, api.ErrArg}, {list{4, 6, 1}, api.ErrArg}, {nil, api.ErrArg}, {list{0, 6}, api.ErrArg}, {list{4, -6}, api.ErrArg}, {list{-1 << 63, -1 << 63}, api.ErrArg},
		{list{4, 1 << 50}, api.OK}, {list{4, 1<<50 + 1}, api.ErrLimit}, {list{1 << 62, 1 << 62}, api.ErrLimit}, {list{1 << 16, 1 << 36}, api.ErrLimit}, {list{52428, 6}, api.OK}, {list{52429, 6}, api.ErrLimit},
	} {
		wantFlatErr(t, "x^3 + 2y^5 + 3xy", a, c.base, c.want)
	}
}

func TestFlatTakesTheFirstTermsError(t *testing.T) { // P17.2: by the ring's order; and the limit of places is behind all of these
	lex, grlex := ring(7, api.Lex, 2), ring(7, api.GrLex, 2)
	first, other := list{1, 3, 0}, list{1, 0, 9} // the one that stands ahead by Lex, and by GrLex
	wantFlatErr(t, "one whose first term does not fit", made(t, lex, first, other), list{3, 1 << 51}, api.ErrArg)
	wantFlatErr(t, "one whose second term does not fit", made(t, grlex, first, other), list{3, 1 << 51}, api.ErrLimit)
	wantFlatErr(t, "one whose second term does not fit", made(t, lex, first, other), list{1 << 51, 9}, api.ErrLimit)
	wantFlatErr(t, "one whose first term does not fit", made(t, grlex, first, other), list{1 << 51, 9}, api.ErrArg)
	wantFlatErr(t, "one whose first term is too high, and whose second one does not fit", made(t, lex, list{1, mostPlaces, 0}, list{1, 0, 9}), list{mostPlaces + 1, 9}, api.ErrArg)
	wantFlatErr(t, "one whose first term is too high, and whose last one does not fit", made(t, lex, list{1, mostPlaces, 0}, list{1, 1, 1}, list{1, 0, 9}), list{mostPlaces + 1, 9}, api.ErrArg)
	wantFlatErr(t, "one whose last term is too high, and whose first one does not fit", made(t, lex, list{1, 9, 0}, list{1, 0, mostPlaces}), list{9, mostPlaces + 1}, api.ErrArg)
}

func TestFlatAtTheLimit(t *testing.T) { // P17.2: a place that is not below 262144
	for _, p := range []uint64{2, greatest} {
		for _, order := range termOrders() {
			r := ring(p, order, 3)
			for _, c := range []struct {
				e, base list
				want    api.Errno
			}{
				{list{mostPlaces - 1, 0, 0}, list{mostPlaces, 1, 1}, api.OK}, {list{mostPlaces, 0, 0}, list{mostExp, 1, 1}, api.ErrLimit}, {list{0, mostPlaces - 1, 0}, list{1, mostPlaces, 5}, api.OK}, {list{0, mostPlaces, 0}, list{1, mostExp, 5}, api.ErrLimit}, {list{0, 0, 1}, list{512, 512, 2}, api.ErrLimit}, {list{511, 511, 0}, list{512, 512, 2}, api.OK},
				{list{0, 0, 1}, list{511, 513, 2}, api.OK}, {list{0, 0, 3}, list{256, 256, 1 << 36}, api.OK}, {list{0, 0, 4}, list{256, 256, 1 << 36}, api.ErrLimit}, {list{255, 255, 3}, list{256, 256, 1 << 36}, api.OK}, {list{mostExp, 0, 0}, list{mostExp + 1, 1, 1}, api.ErrLimit}, {list{0, 0, mostExp}, list{1, 1, 1 << 52}, api.ErrLimit},
			} {
				wantFlatErr(t, "one term", polyOf(t, r, termsOf(append(list{1}, c.e...))), c.base, c.want)
				wantFlatErr(t, "that term, and 1", polyOf(t, r, termsOf(append(list{1}, c.e...), list{1, 0, 0, 0})), c.base, c.want)
			}
		}
	}
}

func TestFlatOfManyTerms(t *testing.T) { // P17.2
	for _, p := range []uint64{2, 998244353, greatest} {
		wantFlatErr(t, "as many terms as may be", polyOf(t, ring(p, api.GrevLex, 2), row(mostTerms, 0, -1, 1, 2)), list{2, mostTerms}, api.OK)
		wantFlatErr(t, "as many terms as may be, at the highest places", polyOf(t, ring(p, api.GrevLex, 2), row(mostTerms, mostPlaces-mostTerms, 1, 0, 2)), list{mostPlaces, 1}, api.OK)
		wantFlatErr(t, "as many terms as may be, and one place too high", polyOf(t, ring(p, api.GrevLex, 2), row(mostTerms, mostPlaces-mostTerms+1, 1, 0, 2)), list{mostExp, 1}, api.ErrLimit)
	}
}
