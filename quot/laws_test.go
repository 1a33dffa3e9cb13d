package quot_test

import (
	"testing"

	"vinculum/api"
	"vinculum/mpoly"
	"vinculum/quot"
	"vinculum/term"
)

// goesInto tells whether b's first term goes into another one.
func goesInto(b mpoly.Poly, x mpoly.Term) bool {
	first := b.Terms()[0]
	if _, err := term.Div(x.E, first.E); err != api.OK {
		return false
	}
	_, err := x.C.Exact(first.C)
	return b.Ring().P != 0 || err == api.OK
}

func TestWhatADivisionIs(t *testing.T) { // P19.3: a is q times b, and r, into which b's first term does not go
	s := source(21)
	for _, r := range rings() {
		for _, b := range divisors(t, &s, r) {
			a := s.poly(t, r, 25, 6)
			q, left, err := quot.DivMod(a, b)
			if err != api.OK {
				t.Fatalf("over %v: error %d", r, int(err))
			}
			wantSame(t, "q times b, and r", fine(t)(fine(t)(q.Mul(b)).Add(left)), a)
			for _, x := range left.Terms() {
				if goesInto(b, x) {
					t.Errorf("over %v: b's first term goes into %s at %d, which is left", r, x.C.Print(), x.E)
				}
			}
		}
	}
}

func TestProductsDivided(t *testing.T) { // P19.3, T2: by one of both, it is the other one
	s := source(22)
	for _, r := range rings() {
		for _, b := range divisors(t, &s, r) {
			a := s.poly(t, r, 10, 4)
			product := fine(t)(a.Mul(b))
			wantSame(t, "a product by b", fine(t)(quot.Div(product, b)), a)
			if a.Len() > 0 {
				wantSame(t, "a product by a", fine(t)(quot.Div(product, a)), b)
			}
		}
	}
}

// wantDivides holds Divides.
func wantDivides(t *testing.T, what string, b, a mpoly.Poly, want bool) {
	t.Helper()
	if got, err := quot.Divides(b, a); got != want || err != api.OK {
		t.Errorf("%s, over %v: got %t, error %d", what, a.Ring(), got, int(err))
	}
}

func TestDividedByAProduct(t *testing.T) { // P19.3: then by both, and by no more than that
	s := source(23)
	for _, r := range rings() {
		if len(r.Vars) == 0 {
			continue
		}
		for _, b := range divisors(t, &s, r) {
			c := divisors(t, &s, r)[s.below(4)]
			product := fine(t)(b.Mul(c))
			a := fine(t)(product.Mul(s.poly(t, r, 4, 3)))
			wantDivides(t, "a product's multiple by the product", product, a, true)
			wantDivides(t, "a product's multiple by one", b, a, true)
			wantDivides(t, "a product's multiple by the other one", c, a, true)
			wantSame(t, "by one, and by the other one", fine(t)(quot.Div(fine(t)(quot.Div(a, b)), c)), fine(t)(quot.Div(a, product)))
			wantDivides(t, "0", product, made(t, r), true)
			if b.Deg() > 0 {
				wantDivides(t, "a multiple of b, and 1", b, fine(t)(a.Add(number(t, r, 1))), false)
			}
		}
	}
}

func TestDividesAndItsArguments(t *testing.T) { // P19.2: b comes first
	z := ring(0, api.Lex, 1)
	wantDivides(t, "2 divides 6", number(t, z, 2), number(t, z, 6), true)
	wantDivides(t, "6 divides 2", number(t, z, 6), number(t, z, 2), false)
	wantDivides(t, "x divides x^2", made(t, z, list{1, 1}), made(t, z, list{1, 2}), true)
	wantDivides(t, "x^2 divides x", made(t, z, list{1, 2}), made(t, z, list{1, 1}), false)
	if is, err := quot.Divides(made(t, z), number(t, z, 2)); is || err != api.ErrDivZero {
		t.Errorf("0 divides 2: got %t, error %d", is, int(err))
	}
}

func TestDivJustWhereThereIsAQuotient(t *testing.T) { // T2: all polynomials of few terms modulo 2 and 3, one by one
	for _, p := range []uint64{2, 3} {
		r := ring(p, api.GrevLex, 2)
		all := small(t, r)
		for _, b := range all {
			if b.Len() == 0 {
				continue
			}
			quotients := map[string]mpoly.Poly{}
			for _, q := range all {
				quotients[textOf(fine(t)(q.Mul(b)))] = q
			}
			for _, a := range all {
				want, there := quotients[textOf(a)]
				got, err := quot.Div(a, b)
				if there {
					wantSame(t, "a quotient that there is", fine(t)(got, err), want)
				} else {
					wantErr(t, "a quotient that there is not", got, err, api.ErrInexact)
				}
			}
		}
	}
}

// small are all polynomials of x and y up to the 1st, and x^2.
func small(t *testing.T, r api.Ring) []mpoly.Poly {
	t.Helper()
	l := []mpoly.Poly{made(t, r)}
	for _, e := range []list{{0, 0}, {1, 0}, {0, 1}, {1, 1}, {2, 0}} {
		for _, a := range l {
			for c := 1; c < int(r.P); c++ {
				l = append(l, fine(t)(a.Add(made(t, r, append(list{c}, e...)))))
			}
		}
	}
	return l
}

// textOf is a text by which polynomials of a ring are told apart.
func textOf(a mpoly.Poly) string {
	text := ""
	for _, x := range a.Terms() {
		text += x.C.Print()
		for _, e := range x.E {
			text += "," + string(rune('0'+e))
		}
		text += ";"
	}
	return text
}
