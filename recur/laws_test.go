package recur_test

import (
	"slices"
	"testing"

	"vinculum/api"
	"vinculum/recur"
)

func TestOneShortestRule(t *testing.T) { // P10.3: what more of the row is known changes nothing
	s := source(41)
	for _, p := range primes() {
		for n := range 12 {
			r := rule(s.words(n))
			l := moreOf(p, r, s.words(n), n+20)
			want := findOf(t, p, l[:2*n])
			if len(want) > n {
				t.Errorf("modulo %d: Find of a row by %d: got %d", p, r, want)
			}
			for more := range 21 {
				if got := findOf(t, p, l[:2*n+more]); !slices.Equal(got, want) {
					t.Errorf("modulo %d: Find of a row by %d: got %d of %d numbers, %d of %d", p, r, want, 2*n, got, 2*n+more)
				}
			}
		}
	}
}

func TestRowsGoOnByWhatIsFound(t *testing.T) { // P10.3
	s := source(42)
	for _, p := range primes() {
		for n := range 30 {
			l := s.crooked(p, n)
			r := findOf(t, p, l)
			if is, err := recur.Holds(p, r, l); !is || err != api.OK {
				t.Errorf("modulo %d: Holds of %d and %d: got %t, error %d", p, r, l, is, int(err))
			}
			wantMore(t, p, r, l[:len(r)], n-len(r), leftOf(l, p))
			for at, x := range l {
				wantFar(t, p, r, l, uint64(at), x%p)
			}
			// The row, and as much again, has the same rule, if that was short.
			if longer := moreOf(p, r, l, n); 2*len(r) <= n && !slices.Equal(findOf(t, p, longer), r) {
				t.Errorf("modulo %d: Find of %d and more: got another rule than %d", p, l, r)
			}
		}
	}
}

func TestMoreGoesOn(t *testing.T) { // P10.3
	s := source(43)
	for _, p := range primes() {
		for _, n := range []int{0, 1, 2, 7, 65, 100} {
			r, l := rule(s.words(n)), s.words(n)
			more, err := recur.More(p, r, l, 300)
			if err != api.OK {
				t.Fatalf("More: error %d", int(err))
			}
			if is, err := recur.Holds(p, r, more); !is || err != api.OK {
				t.Errorf("modulo %d: Holds of what a rule of %d numbers comes to: got %t, error %d", p, n, is, int(err))
			}
			// In two steps it is the same as in one.
			part, _ := recur.More(p, r, l, 123)
			wantMore(t, p, r, part, 177, more)
			// From a place within it goes on in the same way.
			wantMore(t, p, r, more[50:50+n], 250, more[50:])
		}
	}
}

func TestFarIsWhatMoreComesTo(t *testing.T) { // P10.3
	s := source(44)
	for _, p := range primes() {
		for _, n := range []int{0, 1, 2, 3, 7, 30, 65, 100} {
			r, l := rule(s.words(n)), s.words(n)
			more, err := recur.More(p, r, l, 200)
			if err != api.OK {
				t.Fatalf("More: error %d", int(err))
			}
			for at := 0; at < len(more); at += 1 + at/20 {
				wantFar(t, p, r, l, uint64(at), more[at])
			}
		}
	}
}

func TestFarOfALongRule(t *testing.T) { // P10.3: of a length at which products go by primes
	s := source(45)
	r, l := rule(s.words(3500)), s.words(3500)
	more, err := recur.More(greatest, r, l, 40000)
	if err != api.OK {
		t.Fatalf("More: error %d", int(err))
	}
	for _, at := range []int{3499, 3500, 43499} {
		wantFar(t, greatest, r, l, uint64(at), more[at])
	}
}
