package lang_test

import (
	"strings"
	"testing"

	"vinculum/api"
	"vinculum/bigint"
	"vinculum/lang"
	"vinculum/mpoly"
)

// The limits, and the greatest prime that a ring may have.
const (
	mostBytes  = 100000
	mostDigits = 20000
	mostDepth  = 64
	mostExp    = 1048576
	mostTerms  = 100000
	mostPower  = 1000
	mostBits   = 262144
	greatest   = 9223372036854775783
)

type list = []int

// source is numbers that look like any others, the same ones in every run.
type source uint64

func (s *source) word() uint64 {
	*s += 0x9e3779b97f4a7c15
	w := uint64(*s)
	w = (w ^ w>>30) * 0xbf58476d1ce4e5b9
	w = (w ^ w>>27) * 0x94d049bb133111eb
	return w ^ w>>31
}

// below is a number from 0 to n less 1.
func (s *source) below(n int) int { return int(s.word() % uint64(n)) }

// one is any of some texts.
func (s *source) one(l ...string) string { return l[s.below(len(l))] }

// number is a whole number: often a small one, now and then one of many words.
func (s *source) number() bigint.Int {
	switch s.below(8) {
	case 0:
		return bigint.Of(int(s.word()))
	case 1:
		x := bigint.Of(int(s.word()))
		return x.Mul(x).Mul(bigint.Of(int(s.word())))
	default:
		return bigint.Of(s.below(11) - 5)
	}
}

// terms are n of so many variables, with exponents below a number.
func (s *source) terms(n, vars, below int) []mpoly.Term {
	l := make([]mpoly.Term, n)
	for i := range l {
		l[i] = mpoly.Term{E: make(list, vars), C: s.number()}
		for v := range vars {
			l[i].E[v] = s.below(below)
		}
	}
	return l
}

// names are n variables.
func names(n int) []string { return []string{"x", "y", "z", "a_1", "B", "t0", "u", "w"}[:n] }

// ring is one of so many variables.
func ring(p uint64, order, vars int) api.Ring { return api.Ring{P: p, Vars: names(vars), Order: order} }

// rings are some of each kind.
func rings() []api.Ring {
	var all []api.Ring
	for _, p := range []uint64{0, 2, 7, 998244353, greatest} {
		for _, order := range []int{api.Lex, api.GrLex, api.GrevLex} {
			for _, vars := range []int{0, 1, 2, 3, 8} {
				all = append(all, ring(p, order, vars))
			}
		}
	}
	return all
}

// overZ is the ring of the document's examples.
func overZ() api.Ring { return ring(0, api.Lex, 2) }

func polyOf(t *testing.T, r api.Ring, l []mpoly.Term) mpoly.Poly {
	t.Helper()
	a, err := mpoly.Make(r, l)
	if err != api.OK {
		t.Fatalf("Make over %v of %d terms: error %d", r, len(l), int(err))
	}
	return a
}

// made is a polynomial of rows: a coefficient, and exponents.
func made(t *testing.T, r api.Ring, rows ...list) mpoly.Poly {
	t.Helper()
	var l []mpoly.Term
	for _, row := range rows {
		l = append(l, mpoly.Term{E: row[1:], C: bigint.Of(row[0])})
	}
	return polyOf(t, r, l)
}

// short is a text, or its beginning.
func short(s string) string {
	if len(s) > 60 {
		return s[:60] + ".."
	}
	return s
}

// wantParsed holds Parse of a text against a polynomial.
func wantParsed(t *testing.T, r api.Ring, s string, want mpoly.Poly) {
	t.Helper()
	a, at, err := lang.Parse(r, s)
	if err != api.OK || at != 0 {
		t.Errorf("Parse over %v of %q: error %d at %d", r, short(s), int(err), at)
	} else if !a.Is(want) {
		t.Errorf("Parse over %v of %q: got %d terms, want %d, or others", r, short(s), a.Len(), want.Len())
	}
}

// wantText holds the Print of a parsed text against another text.
func wantText(t *testing.T, r api.Ring, s, want string) {
	t.Helper()
	a, at, err := lang.Parse(r, s)
	if got := lang.Print(a); err != api.OK || at != 0 || got != want {
		t.Errorf("Parse over %v of %q: got %q, error %d at %d, want %q", r, short(s), short(got), int(err), at, short(want))
	}
}

// nothing tells whether a polynomial is the zero one, of no ring.
func nothing(a mpoly.Poly) bool { return a.Is(mpoly.Poly{}) }

// wantFault holds Parse's error of a text, its place, and what is beside it.
func wantFault(t *testing.T, r api.Ring, s string, at int, want api.Errno) {
	t.Helper()
	a, got, err := lang.Parse(r, s)
	if err != want || got != at {
		t.Errorf("Parse over %v of %q: got error %d at %d, want %d at %d", r, short(s), int(err), got, int(want), at)
	}
	if !nothing(a) {
		t.Errorf("Parse over %v of %q: a polynomial beside the error %d", r, short(s), int(err))
	}
}

// times is a text, so many times.
func times(s string, n int) string { return strings.Repeat(s, n) }
