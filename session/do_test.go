package session_test

import (
	"fmt"
	"strings"
	"testing"

	"vinculum/api"
	"vinculum/session"
)

// sample is a verb with all its arguments, over the usual ring.
type sample struct {
	verb   string
	args   []string
	fewest int
	poly   bool // whether it answers a polynomial
	bare   bool // whether it is done without a ring
}

func samples() []sample {
	return []sample{
		{"ring", []string{"0", "lex", "x y"}, 2, false, true},
		{"primes", []string{"4611686018427388039"}, 0, false, true},
		{"points", []string{"1 2 3"}, 0, false, true},
		{"names", nil, 0, false, true},
		{"drop", []string{"f"}, 1, false, true},
		{"let", []string{"f"}, 1, true, false},
		{"add", []string{"f", "g"}, 2, true, false},
		{"sub", []string{"f", "g"}, 2, true, false},
		{"mul", []string{"f", "g"}, 2, true, false},
		{"by", []string{"heap", "f", "g"}, 3, true, false},
		{"pow", []string{"f", "2"}, 2, true, false},
		{"div", []string{"f", "x + y"}, 2, true, false},
		{"quo", []string{"f", "g"}, 2, true, false},
		{"rem", []string{"f", "g"}, 2, true, false},
		{"gcd", []string{"f", "0"}, 2, true, false},
		{"diff", []string{"f", "x"}, 2, true, false},
		{"subst", []string{"f", "x", "g"}, 3, true, false},
		{"prim", []string{"f"}, 1, true, false},
		{"find", []string{"1 1", "1"}, 2, true, false},
		{"cont", []string{"f"}, 1, false, false},
		{"deg", []string{"f"}, 1, false, false},
		{"len", []string{"f"}, 1, false, false},
		{"eval", []string{"f", "1 2"}, 1, false, false},
		{"times", []string{"f", "x + y"}, 2, false, false},
		{"ask", []string{"f", "2"}, 2, false, false},
	}
}

// line is a sample with so many arguments.
func (v sample) line(many int) string {
	args := append(append([]string{}, v.args...), "more", "and more")
	return v.verb + " " + strings.Join(args[:many], "; ")
}

func (v sample) whole() string { return v.line(len(v.args)) }

func TestLinesThatAreNone(t *testing.T) { // P23.2: Split's error, ahead of all else
	for _, s := range []*session.Session{session.New(), usual(t)} {
		wantFault(t, s, "f = ", 4, api.ErrSyntax)
		wantFault(t, s, "1 = let x", 0, api.ErrSyntax)
		wantFault(t, s, "none;", 4, api.ErrSyntax)
		wantFault(t, s, "x = none f;;f", 11, api.ErrSyntax)
		wantFault(t, s, "let x\n;", 7, api.ErrSyntax)
		wantFault(t, s, "none "+times("x", mostBytes), 0, api.ErrLimit)
		wantFault(t, s, times(" ", mostBytes+1), 0, api.ErrLimit)
	}
}

func TestEmptyLinesDoNothing(t *testing.T) { // P23.2
	for _, s := range []*session.Session{session.New(), usual(t)} {
		for _, line := range []string{"", " \t", "#", " # f = let 1", "#" + times("x", mostBytes-1)} {
			before := looks(s)
			want(t, s, line, "")
			if after := looks(s); after != before {
				t.Errorf("Do of %q: %s, and before %s", short(line), after, before)
			}
		}
	}
}

func TestVerbsThatAreNone(t *testing.T) { // P23.2: ErrName at the verb, ahead of its arguments, its name, and the ring
	for _, s := range []*session.Session{session.New(), usual(t)} {
		for _, verb := range []string{"none", "f", "x", "Let", "LET", "lets", "le", "let_", "kron", "lex", "a", times("q", 5000)} {
			for _, args := range []string{"", " ", " f", " f; g", " (; q; ^; -; x; x"} {
				wantFault(t, s, verb+args, 0, api.ErrName)
				wantFault(t, s, " x = "+verb+args, 5, api.ErrName)
				wantFault(t, s, times("n", 33)+"="+verb+args, 34, api.ErrName)
			}
		}
	}
}

func TestHowManyArguments(t *testing.T) { // P23.2: at the length of the line, or at the first one that is too much
	for _, v := range samples() {
		for _, s := range []*session.Session{session.New(), usual(t)} {
			for many := range len(v.args) + 3 {
				line := v.line(many)
				switch at := strings.Index(line, "more"); {
				case many < v.fewest:
					wantFault(t, s, line, len(line), api.ErrSyntax)
					wantFault(t, s, line+" \t ", len(line)+3, api.ErrSyntax)
					wantFault(t, s, " x = "+line, len(line)+5, api.ErrSyntax)
				case many > len(v.args):
					wantFault(t, s, line, at, api.ErrSyntax)
					wantFault(t, s, " x = "+line, at+5, api.ErrSyntax)
				}
			}
		}
	}
}

func TestEachVerbIsDone(t *testing.T) { // P23.2: with all its arguments; two of them over a field alone
	for _, v := range samples() {
		s := usual(t)
		if v.verb == "find" || v.verb == "ask" {
			wantFault(t, s, v.whole(), 0, api.ErrArg)
			s = started(t, "ring 97; lex; x y", "f = let x + y")
		}
		if _, at, err := s.Do(v.whole()); err != api.OK {
			t.Errorf("Do of %q: error %d at %d", v.whole(), int(err), at)
		}
	}
}

func TestNamesOfWhatIsNoPolynomial(t *testing.T) { // P23.2: ErrSyntax at the name, ahead of what is wrong with it, and of the ring
	for _, v := range samples() {
		if v.poly {
			continue
		}
		for _, s := range []*session.Session{session.New(), usual(t)} {
			for _, name := range []string{"h", "f", "x", times("n", 33)} {
				wantFault(t, s, " "+name+" = "+v.whole(), 1, api.ErrSyntax)
			}
		}
	}
}

func TestNamesThatAreNone(t *testing.T) { // P23.2: ErrName at the name, ahead of the ring, the arguments, and what is done
	long := times("n", 32)
	for _, v := range samples() {
		if !v.poly {
			continue
		}
		wantFault(t, session.New(), " "+long+"n = "+v.whole(), 1, api.ErrName)
		for _, name := range []string{long + "n", times("n", 5000), "x", "y"} {
			wantFault(t, usual(t), " "+name+" = "+v.whole(), 1, api.ErrName)
		}
	}
	s := usual(t)
	wantFault(t, s, "x = let (", 0, api.ErrName)
	wantFault(t, s, "x = div f; 0", 0, api.ErrName)
	want(t, s, long+" = let x", "x")
	want(t, s, "let "+long, "x")
	want(t, s, "X = let y", "y")
	want(t, s, "x_ = let x", "x")
	want(t, s, "names", "X f g "+long+" x_")
}

func TestNamesOfVariablesThatWere(t *testing.T) { // P23.2: they go by the ring that there is
	s := usual(t)
	wantFault(t, s, "y = let 1", 0, api.ErrName)
	want(t, s, "ring 0; lex; f x", "")
	want(t, s, "y = let 1", "1")
	wantFault(t, s, "f = let 1", 0, api.ErrName)
	want(t, s, "let f + x", "f + x")
	wantFault(t, s, "let f + y", 8, api.ErrName)
}

func TestAnyVerbMayBeAName(t *testing.T) { // P23.2
	s := usual(t)
	for _, v := range samples() {
		want(t, s, v.verb+" = let x", "x")
		want(t, s, "let "+v.verb, "x")
	}
}

// hundred is a session in which 100 polynomials have names.
func hundred(t *testing.T) *session.Session {
	t.Helper()
	s := usual(t)
	for i := range mostNames - 2 {
		want(t, s, fmt.Sprintf("a%02d = let x + %d", i, i+1), fmt.Sprintf("x + %d", i+1))
	}
	return s
}

func TestHowManyNames(t *testing.T) { // P23.2: ErrLimit at a new name, ahead of the arguments, and of what is done
	s := hundred(t)
	for _, v := range samples() {
		if v.poly {
			wantFault(t, s, " new = "+v.whole(), 1, api.ErrLimit)
		}
	}
	wantFault(t, s, "new = let (", 0, api.ErrLimit)
	wantFault(t, s, "new = div x; 0", 0, api.ErrLimit)
	wantFault(t, s, "x = let 1", 0, api.ErrName)
	wantFault(t, s, times("n", 33)+" = let 1", 0, api.ErrName)
	wantFault(t, s, "new = names", 0, api.ErrSyntax)
	wantFault(t, s, "new = let", 9, api.ErrSyntax)
	want(t, s, "let 1", "1")
	want(t, s, "f = let 1", "1")
	want(t, s, "a97 = let f", "1")
	wantFault(t, s, "new = let 1", 0, api.ErrLimit)
	want(t, s, "drop a50", "")
	want(t, s, "new = let 7", "7")
	wantFault(t, s, "a50 = let 7", 0, api.ErrLimit)
	want(t, s, "ring 0; lex", "")
	want(t, s, "a50 = let 7", "7")
}

func TestWithoutARing(t *testing.T) { // P23.2: ErrRing at the verb, ahead of the arguments; but five verbs need none
	for _, v := range samples() {
		s := session.New()
		switch {
		case v.verb == "drop":
			wantFault(t, s, v.whole(), 5, api.ErrNone)
		case v.bare:
			want(t, s, v.whole(), "")
		default:
			wantFault(t, s, v.whole(), 0, api.ErrRing)
		}
		if v.poly {
			wantFault(t, s, "f = "+v.whole(), 4, api.ErrRing)
		}
	}
	s := session.New()
	for _, line := range []string{"let (", "add q; ^", "pow 1; x", "diff 1; x", "by no; 1; 1", "find x; x", "eval 1; x", "ask (; -1"} {
		wantFault(t, s, line, 0, api.ErrRing)
	}
	wantFault(t, s, "ring 4; lex", 0, api.ErrPrime)
	wantFault(t, s, "let 1", 0, api.ErrRing)
	want(t, s, "ring 0; lex", "")
	want(t, s, "let 1", "1")
}

func TestArgumentsOneByOne(t *testing.T) { // P23.2: the error of the first one that has one, ahead of what is done
	s := usual(t)
	for line, fault := range map[string]struct {
		at  int
		err api.Errno
	}{
		"add (; q":            {5, api.ErrSyntax},
		"add q; (":            {4, api.ErrName},
		"add f; (":            {8, api.ErrSyntax},
		"by no; (; q":         {3, api.ErrName},
		"by heap; (; q":       {10, api.ErrSyntax},
		"by kron; f; q":       {12, api.ErrName},
		"pow q; x":            {4, api.ErrName},
		"pow f; x":            {7, api.ErrSyntax},
		"diff q; q":           {5, api.ErrName},
		"diff f; q":           {8, api.ErrName},
		"subst f; q; (":       {9, api.ErrName},
		"subst f; x; (":       {13, api.ErrSyntax},
		"find -1; x":          {5, api.ErrSyntax},
		"find 1; x":           {8, api.ErrSyntax},
		"eval q; x":           {5, api.ErrName},
		"eval f; x":           {8, api.ErrSyntax},
		"ask q; x":            {4, api.ErrName},
		"ask f; 1048577":      {7, api.ErrLimit},
		"ring x; no; 1":       {5, api.ErrSyntax},
		"ring 4; no; 1":       {8, api.ErrName},
		"div (; 0":            {5, api.ErrSyntax},
		"div 0; (":            {8, api.ErrSyntax},
		"h = times f; f":      {0, api.ErrSyntax},
		"h = add f; 2^^2":     {13, api.ErrSyntax},
		"h = by crt; f; g; f": {18, api.ErrSyntax},
	} {
		wantFault(t, s, line, fault.at, fault.err)
	}
}

func TestAnswersHaveTheName(t *testing.T) { // P23.2: the polynomial, from then on
	for _, v := range samples() {
		if !v.poly || v.verb == "find" {
			continue
		}
		s := usual(t)
		answer, _, err := s.Do(v.whole())
		if err != api.OK || answer == "" {
			t.Errorf("Do of %q: got %q, error %d", v.whole(), answer, int(err))
		}
		want(t, s, "new_1 = "+v.whole(), answer)
		want(t, s, "let new_1", answer)
		want(t, s, "names", "f g new_1")
		want(t, s, "f = "+v.whole(), answer)
		want(t, s, "let f", answer)
		want(t, s, "names", "f g new_1")
		want(t, s, "sub f; new_1", "0")
	}
}

func TestAnswersWithoutANameHaveNone(t *testing.T) { // P23.2
	for _, v := range samples() {
		s := usual(t)
		s.Do(v.whole())
		if got := fmt.Sprint(s.Names()); got != "[f g]" && v.verb != "ring" && v.verb != "drop" {
			t.Errorf("Do of %q: the names are %s", v.whole(), got)
		}
	}
}

func TestWhatHasANameIsNotChangedByAnother(t *testing.T) { // P23.2
	s := usual(t)
	want(t, s, "h = let f", "x^2 + 2*x*y + y^2")
	want(t, s, "f = let 1", "1")
	want(t, s, "let h", "x^2 + 2*x*y + y^2")
	want(t, s, "h = mul h; h", "x^4 + 4*x^3*y + 6*x^2*y^2 + 4*x*y^3 + y^4")
	want(t, s, "drop h", "")
	wantFault(t, s, "let h", 4, api.ErrName)
	want(t, s, "let f", "1")
}

func TestWithAnErrorNothingIsChanged(t *testing.T) { // P23.2: neither the ring, names, nor the choices
	s := usual(t)
	want(t, s, "primes 4611686018427388039 4611686018427388073 4611686018427388081 4611686018427388091", "")
	want(t, s, "points 1 2 3 4 5 6 7 8 9 10 11 12", "")
	divisor, _, err := s.Do("gcd f; g")
	if err != api.OK || divisor != "x + y" {
		t.Fatalf("gcd: got %q, error %d", divisor, int(err))
	}
	wantFault(t, s, "primes x", 7, api.ErrSyntax)
	wantFault(t, s, "primes 3 5 -1", 11, api.ErrSyntax)
	wantFault(t, s, "primes 3; 5", 10, api.ErrSyntax)
	wantFault(t, s, "points 18446744073709551616", 7, api.ErrLimit)
	wantFault(t, s, "points 1 2; 3", 12, api.ErrSyntax)
	wantFault(t, s, "points 1;", 9, api.ErrSyntax)
	wantFault(t, s, "ring 0; lex; x x", 0, api.ErrName)
	wantFault(t, s, "ring 9; lex; x", 0, api.ErrPrime)
	wantFault(t, s, "ring 0; lex; a b c d e f g h i", 0, api.ErrArg)
	wantFault(t, s, "ring 7; les; x", 8, api.ErrName)
	wantFault(t, s, "f = div f; x", 4, api.ErrInexact)
	wantFault(t, s, "h = div f; x", 4, api.ErrInexact)
	wantFault(t, s, "h = let 1 +", 11, api.ErrSyntax)
	wantFault(t, s, "drop h", 5, api.ErrNone)
	wantFault(t, s, "drop f; g", 8, api.ErrSyntax)
	wantFault(t, s, "f = drop f", 0, api.ErrSyntax)
	want(t, s, "gcd f; g", "x + y")
	want(t, s, "let f", "x^2 + 2*x*y + y^2")
	want(t, s, "names", "f g")
}

func TestNilSessions(t *testing.T) { // P23.2: ErrNil at 0, whatever the line is
	var s *session.Session
	for _, line := range []string{"", "#", "names", "ring 0; lex", "let 1", " f = ", "none", times(" ", mostBytes+1)} {
		if got, at, err := s.Do(line); got != "" || at != 0 || err != api.ErrNil {
			t.Errorf("Do of %q: got %q at %d, error %d", short(line), got, at, int(err))
		}
	}
}

func TestSessionsAreApart(t *testing.T) { // P23.2: each one has its own ring, names and choices
	a, b := usual(t), session.New()
	wantFault(t, b, "let 1", 0, api.ErrRing)
	want(t, b, "ring 7; grlex; f", "")
	want(t, b, "names", "")
	want(t, b, "g = let f + 8", "f + 1")
	want(t, a, "let g", "x^2 - y^2")
	want(t, a, "drop g", "")
	want(t, b, "let g", "f + 1")
}
