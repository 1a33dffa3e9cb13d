package newton_test

import (
	"slices"
	"testing"

	"vinculum/api"
	"vinculum/newton"
	"vinculum/upoly"
)

// fitOf and valuesBy are the calls, where there is to be no error.
func fitOf(t *testing.T, p uint64, l, v row) poly {
	t.Helper()
	a, err := newton.Fit(p, l, v)
	if err != api.OK {
		t.Fatalf("modulo %d: Fit of %d values: error %d", p, len(l), int(err))
	}
	return a
}

func valuesBy(t *testing.T, p uint64, a poly, l row) row {
	t.Helper()
	v, err := newton.Values(p, a, l)
	if err != api.OK {
		t.Fatalf("modulo %d: Values at %d places: error %d", p, len(l), int(err))
	}
	return v
}

func TestValuesOfWhatWasFitted(t *testing.T) { // P12.4
	s := source(41)
	for _, p := range primes() {
		for _, n := range append(lengths(), 1000) {
			l := s.places(n, p)
			v := s.words(len(l))
			wantValues(t, p, fitOf(t, p, l, v), l, left(v, p))
		}
	}
}

func TestLowDegreesAreTold(t *testing.T) { // P12.4: by as many values, wherever they are
	s := source(42)
	for _, p := range primes() {
		for _, n := range lengths() {
			n = int(min(uint64(n), p))
			a := s.words(n)
			for range 3 {
				l := s.places(n, p)
				wantFit(t, p, l, valuesBy(t, p, a, l), normOf(a, p))
				// More values say the same.
				l = s.places(n+5, p)
				wantFit(t, p, l, valuesBy(t, p, a, l), normOf(a, p))
			}
		}
	}
}

func TestOrderDoesNotCount(t *testing.T) { // P12.4: of places with their values
	s := source(43)
	for _, p := range primes() {
		l := s.places(40, p)
		v := s.words(len(l))
		want := fitOf(t, p, l, v)
		c, err := newton.Sums(p, l, v)
		if err != api.OK {
			t.Fatalf("modulo %d: Sums: error %d", p, int(err))
		}
		turnedL, turnedV := slices.Clone(l), slices.Clone(v)
		slices.Reverse(turnedL)
		slices.Reverse(turnedV)
		wantFit(t, p, turnedL, turnedV, want)
		// Of Sums the numbers go with l, and the sums stay where they are.
		got, err := newton.Sums(p, turnedL, v)
		slices.Reverse(got)
		if !slices.Equal(got, c) || err != api.OK {
			t.Errorf("modulo %d: Sums the other way about: got %d, error %d, want %d", p, short(got), int(err), short(c))
		}
	}
}

func TestRowOfALowDegree(t *testing.T) { // P12.4: from its degree on, each further value is right already
	s := source(44)
	for _, p := range primes() {
		for _, n := range []int{0, 1, 2, 3, 10, 30} {
			a := normOf(s.words(int(min(uint64(n), p))), p)
			l := s.places(len(a)+20, p)
			v := valuesBy(t, p, a, l)
			r := rowOf(t, p)
			for i, x := range l {
				was := slices.Equal(r.Poly(), a)
				had, err := r.Add(x, v[i])
				if err != api.OK || (i >= len(a) || was) && !had {
					t.Errorf("modulo %d: Add of value %d of %d coefficients: got %t, error %d", p, i, len(a), had, int(err))
				}
				if i+1 >= len(a) && !slices.Equal(r.Poly(), a) {
					t.Errorf("modulo %d: after %d values of %d coefficients: got %d, want %d", p, i+1, len(a), short(r.Poly()), short(a))
				}
			}
		}
	}
}

func TestValuesOfSumsAndProducts(t *testing.T) { // P12.4: as those of the polynomials
	s := source(45)
	for _, p := range primes() {
		f, err := upoly.New(p)
		if err != api.OK {
			t.Fatalf("New of %d: error %d", p, int(err))
		}
		a, b, l := s.words(70), s.words(45), s.words(90)
		product, err := f.Mul(a, b, 0)
		if err != api.OK {
			t.Fatalf("Mul: error %d", int(err))
		}
		va, vb := valuesBy(t, p, a, l), valuesBy(t, p, b, l)
		sums, products := make(row, len(l)), make(row, len(l))
		for i := range l {
			sums[i], products[i] = plus(va[i], vb[i], p), times(va[i], vb[i], p)
		}
		wantValues(t, p, f.Add(a, b), l, sums)
		wantValues(t, p, product, l, products)
	}
}

func TestFitAndSumsAreOneMatrix(t *testing.T) { // P12.1, P12.2: numbers times values are sums times coefficients
	s := source(46)
	for _, p := range primes() {
		for _, n := range lengths() {
			l := s.places(n, p)
			values, sums := s.words(len(l)), s.words(len(l))
			a := fitOf(t, p, l, values)
			c, err := newton.Sums(p, l, sums)
			if err != api.OK {
				t.Fatalf("modulo %d: Sums: error %d", p, int(err))
			}
			byValues, bySums := uint64(0), uint64(0)
			for i := range l {
				byValues = plus(byValues, times(values[i], c[i], p), p)
			}
			for i := range a {
				bySums = plus(bySums, times(sums[i], a[i], p), p)
			}
			if byValues != bySums {
				t.Errorf("modulo %d: of %d places: got %d by values, %d by sums", p, len(l), byValues, bySums)
			}
		}
	}
}
