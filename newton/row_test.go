package newton_test

import (
	"math"
	"slices"
	"testing"

	"vinculum/api"
	"vinculum/newton"
)

func rowOf(t *testing.T, p uint64) *newton.Row {
	t.Helper()
	r, err := newton.New(p)
	if err != api.OK || r == nil {
		t.Fatalf("New of %d: error %d", p, int(err))
	}
	return r
}

// step is a value at a place, and what is to be answered.
type step struct {
	x, y uint64
	had  bool
	err  api.Errno
	poly poly
}

// wantSteps adds values to a row of none.
func wantSteps(t *testing.T, p uint64, steps ...step) {
	t.Helper()
	r := rowOf(t, p)
	many := 0
	for i, c := range steps {
		had, err := r.Add(c.x, c.y)
		if had != c.had || err != c.err {
			t.Errorf("modulo %d: Add of %d at %d, after %d steps: got %t, error %d", p, c.y, c.x, i, had, int(err))
		}
		if err == api.OK {
			many++
		}
		if got := r.Poly(); !slices.Equal(got, c.poly) || r.Len() != many {
			t.Errorf("modulo %d: after Add of %d at %d: got %d, of %d values, want %d, of %d", p, c.y, c.x, got, r.Len(), c.poly, many)
		}
	}
}

func TestRow(t *testing.T) { // P12.3
	wantSteps(t, 7)
	wantSteps(t, 7, step{1, 1, false, api.OK, poly{1}}, step{2, 4, false, api.OK, poly{5, 3}}, step{3, 2, false, api.OK, poly{0, 0, 1}}, step{4, 2, true, api.OK, poly{0, 0, 1}}, step{5, 4, true, api.OK, poly{0, 0, 1}}, step{6, 1, true, api.OK, poly{0, 0, 1}}, step{0, 0, true, api.OK, poly{0, 0, 1}})
	wantSteps(t, 7, step{3, 0, true, api.OK, nil}, step{10, 0, false, api.ErrInexact, nil}, step{3, 5, false, api.ErrInexact, nil}, step{4, 7, true, api.OK, nil}, step{0, 1, false, api.OK, poly{1, 0, 3}})
	wantSteps(t, 7, step{8, 15, false, api.OK, poly{1}}, step{1, 1, false, api.ErrInexact, poly{1}}, step{15, 2, false, api.ErrInexact, poly{1}}, step{9, 8, true, api.OK, poly{1}})
	wantSteps(t, 2, step{1, 0, true, api.OK, nil}, step{0, 1, false, api.OK, poly{1, 1}}, step{2, 1, false, api.ErrInexact, poly{1, 1}}, step{3, 0, false, api.ErrInexact, poly{1, 1}})
	wantSteps(t, 2, step{math.MaxUint64, 3, false, api.OK, poly{1}}, step{4, 5, true, api.OK, poly{1}})
	wantSteps(t, greatest, step{0, 0, true, api.OK, nil}, step{1, math.MaxUint64, false, api.OK, poly{0, 49}}, step{greatest, 3, false, api.ErrInexact, poly{0, 49}}, step{greatest - 1, greatest - 49, true, api.OK, poly{0, 49}})
}

// wantGrown adds values at places that are not told yet, and holds the row against Fit and
// the polynomial's value, value by value.
func wantGrown(t *testing.T, p uint64, l, v row) {
	t.Helper()
	r := rowOf(t, p)
	var last poly
	for i, x := range l {
		had, err := r.Add(x, v[i])
		if want := valueOf(last, x, p) == v[i]%p; had != want || err != api.OK {
			t.Fatalf("modulo %d: Add of %d at %d, to %d values: got %t, error %d, want %t", p, v[i], x, i, had, int(err), want)
		}
		fit, err := newton.Fit(p, l[:i+1], v[:i+1])
		if err != api.OK {
			t.Fatalf("modulo %d: Fit: error %d", p, int(err))
		}
		last = r.Poly()
		if !slices.Equal(last, fit) || !slices.Equal(valuesOf(last, l[:i+1], p), left(v[:i+1], p)) || r.Len() != i+1 {
			t.Fatalf("modulo %d: after %d values: got %d, of %d values, want %d", p, i+1, short(last), r.Len(), short(fit))
		}
	}
}

func TestRowGrows(t *testing.T) { // P12.3
	s := source(31)
	for _, p := range primes() {
		for _, n := range []int{1, 2, 5, 20, 60} {
			l := s.places(n, p)
			wantGrown(t, p, l, s.words(len(l)))
			// Values of a polynomial of a low degree, with one among them that is none.
			v := valuesOf(s.words(n/3), l, p)
			wantGrown(t, p, l, v)
			v[s.below(len(v))]++
			wantGrown(t, p, l, v)
		}
	}
}

func TestRowOfAllSmallLists(t *testing.T) { // P12.3
	for _, p := range []uint64{2, 3, 5} {
		n := min(int(p), 3)
		for _, l := range allOf(p, n) {
			if anyTwice(l, p) {
				continue
			}
			for _, v := range allOf(p, n) {
				wantGrown(t, p, l, v)
			}
		}
	}
}

func TestRowAtTheLimit(t *testing.T) { // P12.3: a place that was told is the first error
	s := source(32)
	for _, p := range []uint64{4099, greatest} {
		l, v := s.places(most, p), s.words(most)
		r := rowOf(t, p)
		for i, x := range l {
			if _, err := r.Add(x, v[i]); err != api.OK || r.Len() != i+1 {
				t.Fatalf("modulo %d: Add to %d values: error %d", p, i, int(err))
			}
		}
		want, err := newton.Fit(p, l, v)
		if err != api.OK {
			t.Fatalf("modulo %d: Fit: error %d", p, int(err))
		}
		for x := range uint64(4099) {
			wantErr := api.ErrLimit
			if slices.ContainsFunc(l, func(y uint64) bool { return y%p == x }) {
				wantErr = api.ErrInexact
			}
			if had, err := r.Add(x+p, 5); had || err != wantErr {
				t.Fatalf("modulo %d: Add at %d to %d values: got %t, error %d, want the error %d", p, x, most, had, int(err), int(wantErr))
			}
		}
		if got := r.Poly(); !slices.Equal(got, want) || r.Len() != most {
			t.Errorf("modulo %d: after %d values: got %d, of %d values, want %d", p, most, short(got), r.Len(), short(want))
		}
	}
}

func TestRowOfAllPlaces(t *testing.T) { // P12.3: of a small prime no place is left at last, and no limit is met
	s := source(33)
	for _, p := range []uint64{2, 7, 97} {
		r := rowOf(t, p)
		for _, x := range s.mixedUp(rowTo(p)) {
			if _, err := r.Add(x, s.word()); err != api.OK {
				t.Errorf("modulo %d: Add: error %d", p, int(err))
			}
		}
		for range 10000 {
			if had, err := r.Add(s.word(), s.word()); had || err != api.ErrInexact {
				t.Fatalf("modulo %d: Add where no place is left: got %t, error %d", p, had, int(err))
			}
		}
		if r.Len() != int(p) {
			t.Errorf("modulo %d: got %d values", p, r.Len())
		}
	}
}

func TestNilRow(t *testing.T) { // P12.3
	var r *newton.Row
	for _, x := range []uint64{0, 1, math.MaxUint64} {
		if had, err := r.Add(x, x); had || err != api.ErrNil {
			t.Errorf("Add to a nil row: got %t, error %d", had, int(err))
		}
	}
	if a, n := r.Poly(), r.Len(); len(a) != 0 || n != 0 {
		t.Errorf("a nil row: got %d, of %d values", a, n)
	}
}

func TestRowErrorsChangeNothing(t *testing.T) { // R1
	s := source(34)
	for _, p := range primes() {
		l := s.places(20, p)
		v := s.words(len(l))
		plain, other := rowOf(t, p), rowOf(t, p)
		for i, x := range l {
			had, _ := plain.Add(x, v[i])
			if got, err := other.Add(x, v[i]); got != had || err != api.OK {
				t.Errorf("modulo %d: Add after errors: got %t, error %d, want %t", p, got, int(err), had)
			}
			for _, told := range l[:i+1] {
				if had, err := other.Add(told%p+p, s.word()); had || err != api.ErrInexact {
					t.Errorf("modulo %d: Add at a place that was told: got %t, error %d", p, had, int(err))
				}
			}
			if !slices.Equal(plain.Poly(), other.Poly()) || plain.Len() != other.Len() {
				t.Errorf("modulo %d: errors change a row", p)
			}
		}
	}
}

func TestRowsApart(t *testing.T) { // R3: what is added to one row is nothing to another
	a, b, c := rowOf(t, 7), rowOf(t, 7), rowOf(t, greatest)
	for _, r := range []*newton.Row{a, b, c} {
		if had, err := r.Add(1, 3); had || err != api.OK {
			t.Errorf("Add to another row: got %t, error %d", had, int(err))
		}
	}
	if had, err := a.Add(2, 5); had || err != api.OK {
		t.Errorf("Add: got %t, error %d", had, int(err))
	}
	if !slices.Equal(a.Poly(), poly{1, 2}) || !slices.Equal(b.Poly(), poly{3}) || !slices.Equal(c.Poly(), poly{3}) || a.Len() != 2 || b.Len() != 1 || c.Len() != 1 {
		t.Errorf("rows that were made apart: got %d, %d, %d", a.Poly(), b.Poly(), c.Poly())
	}
}

func TestRowPolynomialIsTheCallers(t *testing.T) { // R2
	s := source(35)
	r := rowOf(t, 97)
	l, v := s.places(30, 97), s.words(30)
	for i, x := range l {
		if _, err := r.Add(x, v[i]); err != api.OK {
			t.Fatalf("Add: error %d", int(err))
		}
		first, second := r.Poly(), r.Poly()
		want := slices.Clone(first)
		overwrite(first)
		if third := r.Poly(); !slices.Equal(second, want) || !slices.Equal(third, want) {
			t.Fatalf("after %d values: a polynomial that was written into is another's", i+1)
		}
		overwrite(second)
	}
	if got := r.Poly(); !slices.Equal(valuesOf(got, l, 97), left(v, 97)) {
		t.Errorf("got %d after answers were written into", got)
	}
	before := r.Poly()
	kept := slices.Clone(before)
	for x := range uint64(97) {
		r.Add(x, x)
	}
	if !slices.Equal(before, kept) {
		t.Errorf("a polynomial that was answered grows with the row")
	}
}
