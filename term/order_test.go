package term_test

import (
	"math"
	"slices"
	"testing"

	"vinculum/api"
	"vinculum/term"
)

func orders() []int { return []int{api.Lex, api.GrLex, api.GrevLex} }

// keyOf is numbers of which the first that is greater tells what stands ahead: the
// order of exponents as one of plain lists.
func keyOf(order int, a list) list {
	degree := 0
	for _, x := range a {
		degree += x
	}
	key := list{degree}
	switch order {
	case api.Lex:
		return a
	case api.GrLex:
		return append(key, a...)
	default:
		for _, x := range slices.Backward(a) {
			key = append(key, -x)
		}
		return key
	}
}

func wantCmp(t *testing.T, order int, a, b list, want int) {
	t.Helper()
	if got, err := term.Cmp(order, a, b); got != want || err != api.OK {
		t.Errorf("order %d: Cmp of %d, %d: got %d, error %d, want %d", order, a, b, got, int(err), want)
	}
}

// cmpOf is Cmp, where there is to be no error.
func cmpOf(t *testing.T, order int, a, b list) int {
	t.Helper()
	c, err := term.Cmp(order, a, b)
	if err != api.OK {
		t.Fatalf("order %d: Cmp of %d, %d: error %d", order, a, b, int(err))
	}
	return c
}

func TestCmp(t *testing.T) { // P13.1
	cases := []struct {
		order int
		a, b  list
		want  int
	}{
		{api.Lex, list{1, 0}, list{0, 5}, 1}, {api.GrLex, list{1, 0}, list{0, 5}, -1}, {api.GrevLex, list{1, 0}, list{0, 5}, -1}, {api.GrevLex, list{1, 1, 0}, list{2, 0, 0}, -1}, {api.GrevLex, list{0, 2, 0}, list{1, 0, 1}, 1},
		{api.GrLex, list{0, 2, 0}, list{1, 0, 1}, -1}, {api.Lex, list{0, 2, 0}, list{1, 0, 1}, -1}, {api.Lex, list{2, 1, 0}, list{2, 0, 9}, 1}, {api.GrLex, list{2, 1, 0}, list{2, 0, 1}, 1}, {api.GrevLex, list{2, 1, 0}, list{2, 0, 1}, 1},
		// The first place that is not the same tells, though a later one says otherwise; and the last one.
		{api.GrLex, list{1, 0, 2}, list{0, 3, 0}, 1}, {api.GrevLex, list{1, 0, 2}, list{0, 3, 0}, -1}, {api.GrLex, list{2, 0, 2}, list{1, 3, 0}, 1}, {api.GrevLex, list{0, 4, 1}, list{3, 0, 2}, 1}, {api.GrevLex, list{3, 0, 1, 5}, list{1, 3, 0, 5}, -1},
		{api.Lex, nil, nil, 0}, {api.GrLex, nil, list{}, 0}, {api.GrevLex, list{}, nil, 0}, {api.Lex, list{7}, list{6}, 1}, {api.GrLex, list{6}, list{7}, -1}, {api.GrevLex, list{7}, list{6}, 1}, {api.GrevLex, list{7}, list{7}, 0},
		{api.Lex, list{0, most}, list{1, 0}, -1}, {api.GrLex, list{0, most}, list{1, 0}, 1}, {api.GrLex, filled(8, most), filled(8, most), 0}, {api.GrevLex, filled(8, most), append(filled(7, most), most-1), 1}, {api.Lex, append(filled(7, most), most-1), filled(8, most), -1},
	}
	for _, c := range cases {
		wantCmp(t, c.order, c.a, c.b, c.want)
		wantCmp(t, c.order, c.b, c.a, -c.want)
	}
}

func TestCmpOfAllSmallLists(t *testing.T) { // P13.1
	for _, order := range orders() {
		for _, c := range []struct{ m, n int }{{3, 0}, {9, 1}, {5, 2}, {4, 3}, {3, 4}, {2, 6}} {
			all := allOf(c.m, c.n)
			for _, a := range all {
				for _, b := range all {
					wantCmp(t, order, a, b, slices.Compare(keyOf(order, a), keyOf(order, b)))
				}
			}
		}
	}
}

// neighbour is exponents of the same degree, where that can be: one moved to another variable.
func (s *source) neighbour(a list) list {
	a = slices.Clone(a)
	i, j := s.below(len(a)), s.below(len(a))
	if a[i] > 0 && a[j] < most {
		a[i]--
		a[j]++
	}
	return a
}

func TestCmpOfManyLists(t *testing.T) { // P13.1
	s := source(11)
	for _, order := range orders() {
		for n := 1; n <= manyVars; n++ {
			for _, greatest := range []int{1, 2, 100, most} {
				for range 100 {
					a, b := s.exponents(n, greatest), s.exponents(n, greatest)
					near := s.neighbour(s.neighbour(a))
					wantCmp(t, order, a, b, slices.Compare(keyOf(order, a), keyOf(order, b)))
					wantCmp(t, order, a, near, slices.Compare(keyOf(order, a), keyOf(order, near)))
					wantCmp(t, order, a, slices.Clone(a), 0)
				}
			}
		}
	}
}

func wantCmpErr(t *testing.T, order int, a, b list) {
	t.Helper()
	if got, err := term.Cmp(order, a, b); got != 0 || err != api.ErrArg {
		t.Errorf("order %d: Cmp of %d, %d: got %d, error %d, want the error 1", order, a, b, got, int(err))
	}
}

func TestCmpErrors(t *testing.T) { // P13.1
	for _, order := range []int{0, 4, -1, 5, 100, math.MinInt, math.MaxInt} {
		for _, a := range []list{nil, {0}, {1, 2}, filled(8, most), {-1}, make(list, 9)} {
			wantCmpErr(t, order, a, a)
			wantCmpErr(t, order, a, filled(len(a), 1))
		}
	}
	for _, order := range orders() {
		for _, a := range mayNotBe() {
			for _, b := range append(mayNotBe(), slices.Clone(a), make(list, len(a)), filled(len(a), most), nil) {
				wantCmpErr(t, order, a, b)
				wantCmpErr(t, order, b, a)
			}
		}
		for n := range manyVars + 1 {
			for m := range manyVars + 1 {
				if n != m {
					wantCmpErr(t, order, make(list, n), make(list, m))
					wantCmpErr(t, order, filled(n, most), filled(m, 1))
				}
			}
		}
	}
}

func TestOneOfTwoStandsAhead(t *testing.T) { // P13.4: and the other one behind
	for _, order := range orders() {
		for _, a := range allOf(3, 3) {
			for _, b := range allOf(3, 3) {
				there, back := cmpOf(t, order, a, b), cmpOf(t, order, b, a)
				if there != -back || (there == 0) != slices.Equal(a, b) || there < -1 || there > 1 {
					t.Errorf("order %d: of %d, %d: got %d and %d", order, a, b, there, back)
				}
			}
		}
	}
}

func TestOrdersGoOn(t *testing.T) { // P13.4: from one to another
	for _, order := range orders() {
		all := allOf(3, 3)
		for _, a := range all {
			for _, b := range all {
				for _, c := range all {
					if cmpOf(t, order, a, b) > 0 && cmpOf(t, order, b, c) > 0 && cmpOf(t, order, a, c) <= 0 {
						t.Errorf("order %d: %d stands ahead of %d, which stands ahead of %d", order, a, b, c)
					}
				}
			}
		}
	}
}

func TestOneStandsBehindAll(t *testing.T) { // P13.4
	s := source(12)
	for _, order := range orders() {
		for n := 1; n <= manyVars; n++ {
			for i := range n {
				a := make(list, n)
				a[i] = 1
				wantCmp(t, order, make(list, n), a, -1)
				wantCmp(t, order, a, make(list, n), 1)
			}
			for range 50 {
				if a := s.exponents(n, most); slices.Max(a) > 0 {
					wantCmp(t, order, make(list, n), a, -1)
				}
			}
		}
	}
}

func TestOrdersAreKeptByProducts(t *testing.T) { // P13.4
	s := source(13)
	for _, order := range orders() {
		for n := 1; n <= manyVars; n++ {
			for _, greatest := range []int{1, 3, most / 2} {
				for range 100 {
					a, c := s.exponents(n, greatest), s.exponents(n, greatest)
					b := s.exponents(n, greatest)
					if s.below(2) == 0 {
						b = s.neighbour(a)
					}
					ac, first := term.Mul(a, c)
					bc, second := term.Mul(b, c)
					if first == api.OK && second == api.OK {
						wantCmp(t, order, ac, bc, cmpOf(t, order, a, b))
					}
				}
			}
		}
	}
}

func TestVariablesStandByTheirPlaces(t *testing.T) { // P13.1: in each order the first one is ahead of the second one, and so on
	for _, order := range orders() {
		for i := range manyVars - 1 {
			a, b := make(list, manyVars), make(list, manyVars)
			a[i], b[i+1] = 1, 1
			wantCmp(t, order, a, b, 1)
		}
	}
}
