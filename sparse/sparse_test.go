package sparse_test

import (
	"math/bits"
	"slices"
	"testing"

	"vinculum/api"
	"vinculum/bigint"
	"vinculum/mpoly"
	"vinculum/nat"
	"vinculum/sparse"
)

type (
	row  = []uint64
	list = []int
)

// The limits, and the greatest prime that a ring may have.
const (
	mostVars   = 8
	mostExp    = 1048576
	mostPoints = 1000
	greatest   = 9223372036854775783
)

// first are the primes that stand for the variables.
func first() row { return row{2, 3, 5, 7, 11, 13, 17, 19} }

// primes are some of each kind: such as stand for a variable, and are 0 as its number then, and others.
func primes() row { return row{2, 3, 5, 7, 19, 23, 97, 65537, 998244353, greatest} }

// source is numbers that look like any others, the same ones in every run.
type source uint64

func (s *source) word() uint64 {
	*s += 0x9e3779b97f4a7c15
	w := uint64(*s)
	w = (w ^ w>>30) * 0xbf58476d1ce4e5b9
	w = (w ^ w>>27) * 0x94d049bb133111eb
	return w ^ w>>31
}

// below is a number from 0 to n less 1.
func (s *source) below(n int) int { return int(s.word() % uint64(n)) }

func (s *source) words(n int) row {
	l := make(row, n)
	for i := range l {
		l[i] = s.word()
	}
	return l
}

// exponents are so many, each below a number.
func (s *source) exponents(vars, below int) list {
	e := make(list, vars)
	for v := range e {
		e[v] = s.below(below)
	}
	return e
}

// terms are n of so many variables, with exponents below a number; the coefficients are any words.
func (s *source) terms(n, vars, below int) []mpoly.Term {
	l := make([]mpoly.Term, n)
	for i := range l {
		l[i] = mpoly.Term{E: s.exponents(vars, below), C: number(s.word())}
	}
	return l
}

func (s *source) poly(t *testing.T, r api.Ring, n, below int) mpoly.Poly {
	t.Helper()
	return polyOf(t, r, s.terms(n, len(r.Vars), below))
}

func number(w uint64) bigint.Int { return bigint.From(false, nat.Nat{w}) }

// names are n variables.
func names(n int) []string { return []string{"x", "y", "z", "a_1", "B", "t0", "u", "w"}[:n] }

// ring is one of so many variables.
func ring(p uint64, order, vars int) api.Ring { return api.Ring{P: p, Vars: names(vars), Order: order} }

func termOrders() list { return list{api.Lex, api.GrLex, api.GrevLex} }

// rings are some of each kind, over fields.
func rings() []api.Ring {
	var all []api.Ring
	for _, p := range primes() {
		for i, vars := range []int{0, 1, 2, 3, 5, 8} {
			all = append(all, ring(p, termOrders()[i%3], vars))
		}
	}
	return all
}

func polyOf(t *testing.T, r api.Ring, l []mpoly.Term) mpoly.Poly {
	t.Helper()
	a, err := mpoly.Make(r, l)
	if err != api.OK {
		t.Fatalf("Make over %v of %d terms: error %d", r, len(l), int(err))
	}
	return a
}

// made is a polynomial of rows: a coefficient, and exponents.
func made(t *testing.T, r api.Ring, rows ...list) mpoly.Poly {
	t.Helper()
	var l []mpoly.Term
	for _, x := range rows {
		l = append(l, mpoly.Term{E: x[1:], C: bigint.Of(x[0])})
	}
	return polyOf(t, r, l)
}

// What follows reckons modulo p word by word: what the program is held against.

func plus(x, y, p uint64) uint64 {
	sum, carry := bits.Add64(x%p, y%p, 0)
	return bits.Rem64(carry, sum, p)
}

func times(x, y, p uint64) uint64 {
	high, low := bits.Mul64(x%p, y%p)
	return bits.Rem64(high, low, p)
}

func power(x, n, p uint64) uint64 {
	y := 1 % p
	for ; n > 0; n >>= 1 {
		if n&1 == 1 {
			y = times(y, x, p)
		}
		x = times(x, x, p)
	}
	return y
}

// valueOf is that of a polynomial, each variable being a number.
func valueOf(a mpoly.Poly, at row) uint64 {
	p, sum := a.Ring().P, uint64(0)
	for _, x := range a.Terms() {
		z, _ := x.C.Mod(p)
		for v, n := range x.E {
			z = times(z, power(at[v], uint64(n), p), p)
		}
		sum = plus(sum, z, p)
	}
	return sum
}

// pointOf is the point at the place i.
func pointOf(p uint64, vars, i int) row {
	point := make(row, vars)
	for v := range point {
		point[v] = power(first()[v], uint64(i), p)
	}
	return point
}

// valuesOf is a polynomial's values at the first points.
func valuesOf(a mpoly.Poly, many int) row {
	r, l := a.Ring(), make(row, many)
	for i := range l {
		l[i] = valueOf(a, pointOf(r.P, len(r.Vars), i))
	}
	return l
}

// left is what is left of numbers modulo p.
func left(l row, p uint64) row {
	list := make(row, len(l))
	for i, x := range l {
		list[i] = x % p
	}
	return list
}

// asked is what Ask answers, where there is to be no error.
func asked(t *testing.T, a mpoly.Poly, many int) row {
	t.Helper()
	l, err := sparse.Ask(a, many)
	if err != api.OK || len(l) != many || !slices.Equal(l, left(l, a.Ring().P)) {
		t.Fatalf("Ask over %v of %d terms, %d: got %d values, error %d", a.Ring(), a.Len(), many, len(l), int(err))
	}
	return l
}

// short is the first numbers of a list, to be shown.
func short[T any](l []T) []T { return l[:min(len(l), 12)] }

// seeds are words, enough of them to tell apart whatever there is, nearly always.
func seeds() row { s := source(5); return s.words(90) }
