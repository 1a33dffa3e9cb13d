package brown_test

import (
	"slices"
	"testing"

	"vinculum/api"
	"vinculum/bigint"
	"vinculum/brown"
	"vinculum/mpoly"
)

// The limits, and the greatest prime that a ring may have.
const (
	mostVars  = 8
	mostIn    = 200
	mostTerms = 100000
	greatest  = 9223372036854775783
)

type (
	list = []int
	row  = []uint64
)

// source is numbers that look like any others, the same ones in every run.
type source uint64

func (s *source) word() uint64 {
	*s += 0x9e3779b97f4a7c15
	w := uint64(*s)
	w = (w ^ w>>30) * 0xbf58476d1ce4e5b9
	w = (w ^ w>>27) * 0x94d049bb133111eb
	return w ^ w>>31
}

// below is a number from 0 to n less 1.
func (s *source) below(n int) int { return int(s.word() % uint64(n)) }

// number is a whole number: often a small one, now and then one of many words.
func (s *source) number() bigint.Int {
	switch s.below(12) {
	case 0:
		return bigint.Of(int(s.word()))
	case 1:
		x := bigint.Of(int(s.word()))
		return x.Mul(x).Mul(bigint.Of(int(s.word())))
	default:
		return bigint.Of(s.below(11) - 5)
	}
}

// terms are n of so many variables, with exponents below a number each.
func (s *source) terms(n int, below ...int) []mpoly.Term {
	l := make([]mpoly.Term, n)
	for i := range l {
		l[i] = mpoly.Term{E: make(list, len(below)), C: s.number()}
		for v, b := range below {
			l[i].E[v] = s.below(b)
		}
	}
	return l
}

// poly is one of a ring, all of whose variables have exponents below a number.
func (s *source) poly(t *testing.T, r api.Ring, n, below int) mpoly.Poly {
	t.Helper()
	return polyOf(t, r, s.terms(n, slices.Repeat(list{below}, len(r.Vars))...))
}

// other is one that is not 0.
func (s *source) other(t *testing.T, r api.Ring, n, below int) mpoly.Poly {
	t.Helper()
	for {
		if a := s.poly(t, r, n, below); a.Len() > 0 {
			return a
		}
	}
}

func termOrders() list { return list{api.Lex, api.GrLex, api.GrevLex} }

// names are n variables.
func names(n int) []string { return []string{"x", "y", "z", "a_1", "B", "t0", "u", "w"}[:n] }

// ring is one of so many variables.
func ring(p uint64, order, vars int) api.Ring { return api.Ring{P: p, Vars: names(vars), Order: order} }

func polyOf(t *testing.T, r api.Ring, l []mpoly.Term) mpoly.Poly {
	t.Helper()
	a, err := mpoly.Make(r, l)
	if err != api.OK {
		t.Fatalf("Make over %v of %d terms: error %d", r, len(l), int(err))
	}
	return a
}

// made is a polynomial of rows: a coefficient, and exponents.
func made(t *testing.T, r api.Ring, rows ...list) mpoly.Poly {
	t.Helper()
	var l []mpoly.Term
	for _, x := range rows {
		l = append(l, mpoly.Term{E: x[1:], C: bigint.Of(x[0])})
	}
	return polyOf(t, r, l)
}

func number(t *testing.T, r api.Ring, n int) mpoly.Poly {
	t.Helper()
	return polyOf(t, r, []mpoly.Term{{E: make(list, len(r.Vars)), C: bigint.Of(n)}})
}

// great is a polynomial, times a number of so many bits.
func great(t *testing.T, a mpoly.Poly, bits int) mpoly.Poly {
	t.Helper()
	n, err := bigint.Of(2).Pow(bits)
	if err != api.OK {
		t.Fatalf("2 to the %d: error %d", bits, int(err))
	}
	return fine(t)(a.Scale(mpoly.Term{E: make(list, len(a.Ring().Vars)), C: n.Add(bigint.Of(1))}))
}

// fine is what a call answers, where there is to be no error.
func fine(t *testing.T) func(a mpoly.Poly, err api.Errno) mpoly.Poly {
	return func(a mpoly.Poly, err api.Errno) mpoly.Poly {
		t.Helper()
		if err != api.OK {
			t.Fatalf("error %d", int(err))
		}
		return a
	}
}

func product(t *testing.T, l ...mpoly.Poly) mpoly.Poly {
	t.Helper()
	a := l[0]
	for _, b := range l[1:] {
		a = fine(t)(a.Mul(b))
	}
	return a
}

// primes are some of the greatest ones below 2 to the 63rd, each once.
func primes(n int) row {
	var l row
	for p := uint64(greatest); len(l) < n; p -= 2 {
		if mpoly.Check(api.Ring{P: p, Order: api.Lex}) == api.OK {
			l = append(l, p)
		}
	}
	return l
}

// points are so many, from a first one on.
func points(first, n int) row {
	l := make(row, n)
	for i := range l {
		l[i] = uint64(first + i)
	}
	return l
}

// plenty is more choices than are needed.
func plenty() brown.Choices { return brown.Choices{Primes: primes(24), Points: points(0, 300)} }

// short is a polynomial's first terms, to be shown.
func short(a mpoly.Poly) string {
	text := ""
	for i, x := range a.Terms() {
		if i == 12 {
			return text + " .."
		}
		text += " " + x.C.Print() + ":"
		for _, e := range x.E {
			text += " " + bigint.Of(e).Print()
		}
		text += ";"
	}
	return text
}

func wantSame(t *testing.T, what string, got, want mpoly.Poly) {
	t.Helper()
	if !got.Is(want) || !want.Is(got) {
		t.Errorf("%s, over %v: got%s want%s", what, want.Ring(), short(got), short(want))
	}
}

// wantErr holds an error, and that nothing stands beside it.
func wantErr(t *testing.T, what string, got mpoly.Poly, err, want api.Errno) {
	t.Helper()
	if err != want || !got.Is(mpoly.Poly{}) {
		t.Errorf("%s: got%s of %v, error %d, want the error %d", what, short(got), got.Ring(), int(err), int(want))
	}
}

// wantGcd holds Gcd of both orders, by choices, and over a field Field too.
func wantGcd(t *testing.T, what string, a, b mpoly.Poly, c brown.Choices, want mpoly.Poly) {
	t.Helper()
	for _, l := range [][2]mpoly.Poly{{a, b}, {b, a}} {
		got, err := brown.Gcd(l[0], l[1], c)
		if err != api.OK {
			t.Errorf("%s, over %v: error %d of%s and%s", what, a.Ring(), int(err), short(a), short(b))
			continue
		}
		wantSame(t, what, got, want)
		if a.Ring().P != 0 {
			wantSame(t, what+", Field", fine(t)(brown.Field(l[0], l[1], c.Points)), want)
		}
	}
}

// wantGcdErr holds the error of Gcd of both orders, by choices, and over a field of Field too.
func wantGcdErr(t *testing.T, what string, a, b mpoly.Poly, c brown.Choices, want api.Errno) {
	t.Helper()
	for _, l := range [][2]mpoly.Poly{{a, b}, {b, a}} {
		got, err := brown.Gcd(l[0], l[1], c)
		wantErr(t, what, got, err, want)
		if a.Ring().P != 0 {
			got, err := brown.Field(l[0], l[1], c.Points)
			wantErr(t, what+", Field", got, err, want)
		}
	}
}
