package kron_test

import (
	"math/big"
	"slices"
	"testing"

	"vinculum/api"
	"vinculum/kron"
	"vinculum/mpoly"
	"vinculum/upoly"
)

// spreadOf is what Spread is to answer of a ring that may be: a number for each of the exponents, or an error.
func spreadOf(r api.Ring, f upoly.Poly, base list) (plain, api.Errno) {
	if r.P == 0 || len(base) != len(r.Vars) {
		return nil, api.ErrArg
	}
	if len(f) > mostPlaces {
		return nil, api.ErrLimit
	}
	a, many, product := plain{}, 0, productOf(base)
	for place, c := range f {
		if c%r.P == 0 {
			continue
		}
		if slices.ContainsFunc(base, isBelowOne) {
			return nil, api.ErrArg
		}
		if product.Cmp(big.NewInt(mostPacks)) > 0 {
			return nil, api.ErrLimit
		}
		if int64(place) >= product.Int64() {
			return nil, api.ErrArg
		}
		var e exponents
		for v, b := range base {
			e[v], place = place%b, place/b
		}
		a.put(e, new(big.Int).SetUint64(c))
		many++
	}
	if many > mostTerms {
		return nil, api.ErrLimit
	}
	return a, api.OK
}

// wantSpread holds Spread against spreadOf, and answers its error.
func wantSpread(t *testing.T, what string, r api.Ring, f upoly.Poly, base list) api.Errno {
	t.Helper()
	want, err := spreadOf(r, f, base)
	got, e := kron.Spread(r, f, base)
	if err != api.OK {
		wantErr(t, "Spread of "+what, got, e, err)
	} else {
		wantPoly(t, "Spread of "+what, r, got, e, want)
	}
	return e
}

func wantSpreadErr(t *testing.T, what string, r api.Ring, f upoly.Poly, base list, want api.Errno) {
	t.Helper()
	if err := wantSpread(t, what, r, f, base); err != want {
		t.Errorf("Spread of %s by %d, over %v: error %d, want %d", what, base, r, int(err), int(want))
	}
}

func TestSpreadExamples(t *testing.T) { // P17.2
	r := ring(7, api.Lex, 2)
	want := made(t, r, list{1, 1, 0}, list{2, 0, 1})
	for _, f := range []upoly.Poly{{0, 1, 0, 0, 2}, {0, 1, 7, 0, 9}, {7, 8, 0, 0, 2, 0, 0}, {0, 1, 0, 0, 2, 0, 0, 0, 7, 14, 0, 700}} {
		got, err := kron.Spread(r, f, list{4, 2})
		if err != api.OK || !got.Is(want) {
			t.Errorf("Spread of %d: got %d terms, error %d", f, got.Len(), int(err))
		}
	}
}

// flat is n words, of which some are 0 modulo p, and of which some are not below it.
func (s *source) flat(n int, p uint64) upoly.Poly {
	f := make(upoly.Poly, n)
	for i := range f {
		switch s.below(6) {
		case 0, 1:
			f[i] = s.word() % p
		case 2:
			f[i] = s.word()
		case 3:
			f[i] = p
		case 4:
			f[i] = []uint64{1, p - 1, p + 1, 1<<64 - 1, 1<<64 - 1 - (1<<64-1)%p}[s.below(5)]
		}
	}
	return f
}

func TestSpread(t *testing.T) { // P17.2
	s := source(21)
	errs := map[api.Errno]int{}
	for _, r := range rings() {
		for range 60 {
			base := s.base(len(r.Vars), 1+s.below(1+64>>len(r.Vars)))
			most := 40
			if n := productOf(base); n.IsInt64() && n.Int64() > 0 && n.Int64() < 3000 {
				most = int(n.Int64())
			}
			errs[wantSpread(t, "samples", r, s.flat(s.below(most+1+s.below(2)), r.P), base)]++
		}
	}
	if len(errs) != 3 || errs[api.OK] < 2000 || errs[api.ErrArg] < 100 || errs[api.ErrLimit] < 10 {
		t.Errorf("too few of each: %v", errs)
	}
}

func TestSpreadChecksTheRing(t *testing.T) { // P17.2: ahead of all else
	long := make(upoly.Poly, mostPlaces+1)
	for _, c := range []struct {
		r    api.Ring
		want api.Errno
	}{
		{api.Ring{}, api.ErrArg}, {ring(7, 0, 2), api.ErrArg}, {ring(7, 4, 2), api.ErrArg}, {api.Ring{P: 7, Vars: make([]string, 9), Order: 1}, api.ErrArg}, {api.Ring{P: 7, Vars: []string{"x", "x"}, Order: 1}, api.ErrName}, {api.Ring{P: 7, Vars: []string{"x", ""}, Order: 1}, api.ErrName}, {api.Ring{P: 0, Vars: []string{"x", "_"}, Order: 1}, api.ErrName}, {ring(6, 1, 2), api.ErrPrime}, {ring(1, 1, 2), api.ErrPrime}, {ring(1<<63+29, 1, 2), api.ErrPrime}, {ring(6, 0, 2), api.ErrArg},
	} {
		for _, f := range []upoly.Poly{nil, {1}, {0, 0, 1}, long} {
			for _, base := range []list{{1, 1}, {4, 2}, nil, {1}, {0, 0}, {1 << 52, 2}} {
				got, err := kron.Spread(c.r, f, base)
				wantErr(t, "Spread over a ring that may not be", got, err, c.want)
			}
		}
	}
}

func TestSpreadOverTheIntegers(t *testing.T) { // P17.2: and by bases of other variables: ErrArg, ahead of the limits
	long := make(upoly.Poly, mostPlaces+1)
	for _, f := range []upoly.Poly{nil, {0}, {1}, {0, 0, 1}, long} {
		for _, base := range []list{{1, 1}, {4, 2}, {0, 0}, {1 << 52, 2}, nil, {1}, {1, 1, 1}} {
			wantSpreadErr(t, "whichever, over the integers", ring(0, api.Lex, 2), f, base, api.ErrArg)
		}
		for _, base := range []list{nil, {1}, {2}, {1, 1, 1}, {1 << 53}, make(list, 9)} {
			wantSpreadErr(t, "whichever, by other bases", ring(7, api.GrLex, 2), f, base, api.ErrArg)
		}
		wantSpreadErr(t, "whichever, by a base of nothing", ring(7, api.GrLex, 0), f, list{1}, api.ErrArg)
	}
}

func TestSpreadOfLongPolynomials(t *testing.T) { // P17.2: ErrLimit of more than 262144, be they 0 or not, ahead of Unpack's error
	r := ring(7, api.Lex, 2)
	for _, base := range []list{{1, 1}, {512, 512}, {512, 513}, {0, 0}, {1 << 52, 2}} {
		f := make(upoly.Poly, mostPlaces+1)
		wantSpreadErr(t, "262144 times 0", r, f[:mostPlaces], base, api.OK)
		wantSpreadErr(t, "262145 times 0", r, f, base, api.ErrLimit)
		f[0] = 1
		wantSpreadErr(t, "262145 coefficients", r, f, base, api.ErrLimit)
	}
	f := make(upoly.Poly, mostPlaces)
	f[mostPlaces-1], f[5] = 3, 7
	for _, c := range []struct {
		base list
		want api.Errno
	}{{list{512, 512}, api.OK}, {list{mostPlaces, 1}, api.OK}, {list{1, mostPlaces}, api.OK}, {list{511, 513}, api.ErrArg}, {list{513, 511}, api.ErrArg}, {list{511, 514}, api.OK}, {list{1 << 26, 1 << 26}, api.OK}, {list{1 << 52, 1}, api.OK}, {list{3, 1 << 50}, api.OK}} {
		wantSpreadErr(t, "one at the highest place", r, f, c.base, c.want)
	}
}

func TestSpreadUnpacks(t *testing.T) { // P17.2: Unpack's errors, of places that are not 0 modulo P
	r := ring(7, api.Lex, 2)
	for _, c := range []struct {
		f    upoly.Poly
		base list
		want api.Errno
	}{
		{nil, list{0, 0}, api.OK}, {upoly.Poly{7, 0, 14}, list{0, 0}, api.OK}, {upoly.Poly{7, 0, 14}, list{1 << 62, 1 << 62}, api.OK}, {upoly.Poly{7, 0, 15}, list{0, 0}, api.ErrArg}, {upoly.Poly{7, 0, 15}, list{1 << 62, 1 << 62}, api.ErrLimit}, {upoly.Poly{1}, list{-1, -1}, api.ErrArg}, {upoly.Poly{1}, list{-1, 1 << 62}, api.ErrArg},
		{upoly.Poly{0, 0, 1}, list{1, 2}, api.ErrArg}, {upoly.Poly{1, 1, 1}, list{1, 2}, api.ErrArg}, {upoly.Poly{1, 1, 7}, list{1, 2}, api.OK}, {upoly.Poly{1, 1, 0, 0, 14}, list{2, 1}, api.OK}, {upoly.Poly{1, 1, 0, 0, 14, 1}, list{2, 1}, api.ErrArg}, {upoly.Poly{1}, list{1 << 26, 1 << 26}, api.OK}, {upoly.Poly{1}, list{1 << 26, 1<<26 + 1}, api.ErrLimit},
	} {
		wantSpreadErr(t, "some", r, c.f, c.base, c.want)
	}
}

func TestSpreadOfManyTerms(t *testing.T) { // P17.2: a polynomial has no more than 100000 terms (mpoly's limit)
	for _, p := range []uint64{2, greatest} {
		r := ring(p, api.GrevLex, 3)
		full := make(upoly.Poly, mostPlaces)
		for i := range full {
			full[i] = p
		}
		for i := range mostTerms {
			full[i*2] = p + 1
		}
		base := list{64, 64, 64}
		wantSpreadErr(t, "as many terms as may be", r, full, base, api.OK)
		full[1] = 1
		wantSpreadErr(t, "one term more", r, full, base, api.ErrLimit)
		wantSpreadErr(t, "one term more, and places that there are not", r, full, list{64, 64, 48}, api.ErrArg)
		full[mostPlaces-1] = 1
		wantSpreadErr(t, "two terms more, and the last place not there", r, full, list{1, 1, mostPlaces - 1}, api.ErrArg)
	}
}

func TestSpreadTakesTheRingAsItIs(t *testing.T) { // P17.2
	for _, r := range []api.Ring{ring(7, api.Lex, 0), ring(2, api.GrLex, 8), {P: 5, Vars: []string{"w", "x"}, Order: api.GrevLex}} {
		got, err := kron.Spread(r, upoly.Poly{3}, slices.Repeat(list{1}, len(r.Vars)))
		if err != api.OK || !mpoly.Same(got.Ring(), r) || got.Len() != 1 {
			t.Errorf("Spread over %v: got %v, error %d", r, got.Ring(), int(err))
		}
	}
}
