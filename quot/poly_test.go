package quot_test

import (
	"math/big"
	"slices"
	"testing"

	"vinculum/api"
	"vinculum/bigint"
	"vinculum/mpoly"
)

// The limits, and the greatest prime that a ring may have.
const (
	mostVars  = 8
	mostExp   = 1048576
	mostTerms = 100000
	greatest  = 9223372036854775783
)

type list = []int

// source is numbers that look like any others, the same ones in every run.
type source uint64

func (s *source) word() uint64 {
	*s += 0x9e3779b97f4a7c15
	w := uint64(*s)
	w = (w ^ w>>30) * 0xbf58476d1ce4e5b9
	w = (w ^ w>>27) * 0x94d049bb133111eb
	return w ^ w>>31
}

// below is a number from 0 to n less 1.
func (s *source) below(n int) int { return int(s.word() % uint64(n)) }

// number is a whole number: often a small one, now and then one of many words.
func (s *source) number() bigint.Int {
	switch s.below(8) {
	case 0:
		return bigint.Of(int(s.word()))
	case 1:
		x := bigint.Of(int(s.word()))
		return x.Mul(x).Mul(bigint.Of(int(s.word())))
	default:
		return bigint.Of(s.below(11) - 5)
	}
}

// terms are n of so many variables, with exponents below a number.
func (s *source) terms(n, vars, below int) []mpoly.Term {
	l := make([]mpoly.Term, n)
	for i := range l {
		l[i] = mpoly.Term{E: make(list, vars), C: s.number()}
		for v := range vars {
			l[i].E[v] = s.below(below)
		}
	}
	return l
}

func (s *source) poly(t *testing.T, r api.Ring, n, below int) mpoly.Poly {
	t.Helper()
	return polyOf(t, r, s.terms(n, len(r.Vars), below))
}

func termOrders() []int { return []int{api.Lex, api.GrLex, api.GrevLex} }

// names are n variables.
func names(n int) []string { return []string{"x", "y", "z", "a_1", "B", "t0", "u", "w"}[:n] }

// ring is one of so many variables.
func ring(p uint64, order, vars int) api.Ring { return api.Ring{P: p, Vars: names(vars), Order: order} }

// rings are some of each kind.
func rings() []api.Ring {
	var all []api.Ring
	for _, p := range []uint64{0, 2, 7, 998244353, greatest} {
		for _, order := range termOrders() {
			for _, vars := range []int{0, 1, 2, 3, 8} {
				all = append(all, ring(p, order, vars))
			}
		}
	}
	return all
}

func polyOf(t *testing.T, r api.Ring, l []mpoly.Term) mpoly.Poly {
	t.Helper()
	a, err := mpoly.Make(r, l)
	if err != api.OK {
		t.Fatalf("Make over %v of %d terms: error %d", r, len(l), int(err))
	}
	return a
}

// termsOf are those of rows: a coefficient, and exponents.
func termsOf(rows ...list) []mpoly.Term {
	var l []mpoly.Term
	for _, row := range rows {
		l = append(l, mpoly.Term{E: row[1:], C: bigint.Of(row[0])})
	}
	return l
}

func made(t *testing.T, r api.Ring, rows ...list) mpoly.Poly {
	t.Helper()
	return polyOf(t, r, termsOf(rows...))
}

// row is n terms, with the powers of the variable v from a first one on, each with a coefficient.
func row(n, first, c, v, vars int) []mpoly.Term {
	l := make([]mpoly.Term, n)
	for i := range l {
		l[i] = mpoly.Term{E: make(list, vars), C: bigint.Of(c)}
		l[i].E[v] = first + i
	}
	return l
}

func number(t *testing.T, r api.Ring, n int) mpoly.Poly {
	t.Helper()
	return polyOf(t, r, []mpoly.Term{{E: make(list, len(r.Vars)), C: bigint.Of(n)}})
}

// power is x to the nth.
func power(t *testing.T, x, n int) bigint.Int {
	t.Helper()
	y, err := bigint.Of(x).Pow(n)
	if err != api.OK {
		t.Fatalf("%d to the %d: error %d", x, n, int(err))
	}
	return y
}

func toBig(x bigint.Int) *big.Int {
	n := new(big.Int)
	for _, w := range slices.Backward(x.Nat()) {
		n.Lsh(n, 64).Or(n, new(big.Int).SetUint64(w))
	}
	if x.Sign() < 0 {
		n.Neg(n)
	}
	return n
}

// exponents are a list as a key, with 0 behind it.
type exponents [mostVars]int

func keyOf(e list) exponents {
	var key exponents
	copy(key[:], e)
	return key
}

// plain is a polynomial as a number for each of its exponents, over the integers: what the program is held against.
type plain map[exponents]*big.Int

func (a plain) put(e exponents, c *big.Int) {
	if a[e] == nil {
		a[e] = new(big.Int)
	}
	a[e].Add(a[e], c)
}

func plainOf(a mpoly.Poly) plain {
	p := plain{}
	for _, t := range a.Terms() {
		p.put(keyOf(t.E), toBig(t.C))
	}
	return p
}

func (a plain) times(b plain) plain {
	product := plain{}
	for e, c := range a {
		for f, d := range b {
			g := e
			for v := range g {
				g[v] += f[v]
			}
			product.put(g, new(big.Int).Mul(c, d))
		}
	}
	return product
}

// within is a, modulo the ring's prime, without what is 0.
func (a plain) within(r api.Ring) plain {
	left := plain{}
	for e, c := range a {
		if r.P != 0 {
			c = new(big.Int).Mod(c, new(big.Int).SetUint64(r.P))
		}
		if c.Sign() != 0 {
			left[e] = c
		}
	}
	return left
}

// rank is numbers of which the first that is greater tells what stands ahead.
func rank(order int, e exponents) list {
	degree := 0
	for _, x := range e {
		degree += x
	}
	l := list{degree}
	switch order {
	case api.Lex:
		return e[:]
	case api.GrLex:
		return append(l, e[:]...)
	default:
		for _, x := range slices.Backward(e[:]) {
			l = append(l, -x)
		}
		return l
	}
}

// wantPoly holds a polynomial against what it is to be: its ring, each of its terms, and how they stand.
func wantPoly(t *testing.T, what string, r api.Ring, got mpoly.Poly, err api.Errno, want plain) {
	t.Helper()
	want = want.within(r)
	if err != api.OK || !mpoly.Same(got.Ring(), r) || got.Len() != len(want) || len(got.Terms()) != len(want) {
		t.Errorf("%s, over %v: got error %d, the ring %v and %d terms, want %d", what, r, int(err), got.Ring(), got.Len(), len(want))
		return
	}
	var last list
	for i, x := range got.Terms() {
		c := want[keyOf(x.E)]
		if len(x.E) != len(r.Vars) || c == nil || c.Cmp(toBig(x.C)) != 0 {
			t.Errorf("%s, over %v: got the term %s at %d, want %v", what, r, x.C.Print(), x.E, c)
			return
		}
		next := rank(r.Order, keyOf(x.E))
		if i > 0 && slices.Compare(last, next) <= 0 {
			t.Errorf("%s, over %v: %d stands behind another one, not ahead", what, r, x.E)
			return
		}
		last = next
	}
}

// wantErr holds an error, and that nothing stands beside it.
func wantErr(t *testing.T, what string, got mpoly.Poly, err, want api.Errno) {
	t.Helper()
	if err != want || !got.Is(mpoly.Poly{}) {
		t.Errorf("%s: got %d terms of %v, error %d, want the error %d", what, got.Len(), got.Ring(), int(err), int(want))
	}
}

func wantSame(t *testing.T, what string, got, want mpoly.Poly) {
	t.Helper()
	if !got.Is(want) || !want.Is(got) {
		t.Errorf("%s, over %v: got %d terms, want %d, or others", what, want.Ring(), got.Len(), want.Len())
	}
}

// fine is what a call answers, where there is to be no error.
func fine(t *testing.T) func(a mpoly.Poly, err api.Errno) mpoly.Poly {
	return func(a mpoly.Poly, err api.Errno) mpoly.Poly {
		t.Helper()
		if err != api.OK {
			t.Fatalf("error %d", int(err))
		}
		return a
	}
}

// others are polynomials whose ring is not that over the integers, x and y, Lex, and is near to it.
func others(t *testing.T) []mpoly.Poly {
	t.Helper()
	yx := api.Ring{Vars: []string{"y", "x"}, Order: api.Lex}
	return []mpoly.Poly{{}, made(t, ring(0, api.GrLex, 2), list{1, 0, 1}), made(t, ring(0, api.GrevLex, 2)), made(t, ring(7, api.Lex, 2), list{1, 0, 1}), made(t, ring(2, api.Lex, 2)), made(t, ring(0, api.Lex, 1), list{1, 0}), made(t, ring(0, api.Lex, 3), list{1, 0, 0, 1}), made(t, ring(0, api.Lex, 0), list{1}), made(t, yx, list{1, 0, 1})}
}
