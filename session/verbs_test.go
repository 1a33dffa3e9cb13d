package session_test

import (
	"fmt"
	"strings"
	"testing"

	"vinculum/api"
	"vinculum/session"
)

const (
	primes = "primes 4611686018427388039 4611686018427388073 4611686018427388081 4611686018427388091"
	points = "points 1 2 3 4 5 6 7 8 9 10 11 12"
)

func wantRing(t *testing.T, s *session.Session, p uint64, order int, vars ...string) {
	t.Helper()
	if r := s.Ring(); r.P != p || r.Order != order || strings.Join(r.Vars, " ") != strings.Join(vars, " ") || len(r.Vars) != len(vars) {
		t.Errorf("the ring is %v, want P %d, order %d, %v", r, p, order, vars)
	}
}

func TestRing(t *testing.T) { // its P, order and names
	s := session.New()
	wantRing(t, s, 0, 0)
	want(t, s, "ring 0; lex; x y", "")
	wantRing(t, s, 0, api.Lex, "x", "y")
	want(t, s, "ring 7;grlex;y \t x", "")
	wantRing(t, s, 7, api.GrLex, "y", "x")
	want(t, s, "ring 9223372036854775783 ; grevlex", "")
	wantRing(t, s, 9223372036854775783, api.GrevLex)
	want(t, s, "ring 2; lex; a b c d e f g h", "")
	wantRing(t, s, 2, api.Lex, "a", "b", "c", "d", "e", "f", "g", "h")
	want(t, s, "ring 0; grlex; X_1", "")
	wantRing(t, s, 0, api.GrLex, "X_1")
}

func TestOrders(t *testing.T) { // as terms stand in answers
	for order, answer := range map[string]string{"lex": "x*z^2 + y^3 + x^2", "grlex": "x*z^2 + y^3 + x^2", "grevlex": "y^3 + x*z^2 + x^2"} {
		s := started(t, "ring 0; "+order+"; x y z")
		if order == "lex" {
			answer = "x^2 + x*z^2 + y^3"
		}
		want(t, s, "let y^3 + x*z^2 + x^2", answer)
	}
}

func TestRingsThatMayNotBe(t *testing.T) { // Check's error at the verb, behind those of the arguments
	for _, s := range []*session.Session{session.New(), usual(t)} {
		for _, p := range []string{"1", "4", "9", "9223372036854775807", "9223372036854775808", "18446744073709551615"} {
			wantFault(t, s, "ring "+p+"; lex; x", 0, api.ErrPrime)
			wantFault(t, s, "ring "+p+"; lex; x x", 0, api.ErrName)
			wantFault(t, s, "ring "+p+"; no; x", 6+len(p)+1, api.ErrName)
		}
		for _, vars := range []string{"x x", "1", "x 1", "x, y", "_", "x\ny", "\u00e9", "x y x", "(", times("n", 33)} {
			wantFault(t, s, " ring 0; lex; "+vars, 1, api.ErrName)
		}
		wantFault(t, s, "ring 4; lex; a b c d e f g h i", 0, api.ErrArg)
		wantFault(t, s, "ring 4; lex; 1 2 3 4 5 6 7 8 9", 0, api.ErrArg)
		for _, p := range append(wrongNumbers(), "1 2", "0 0", "7 7 7") {
			wantFault(t, s, "ring  "+p+"; no; x x", 6, api.ErrSyntax)
		}
		wantFault(t, s, "ring 18446744073709551616; no; x x", 5, api.ErrLimit)
		wantFault(t, s, "ring 7  x; no; x x", 8, api.ErrSyntax)
		wantFault(t, s, "ring 7  18446744073709551616; no; x x", 8, api.ErrLimit)
		for _, order := range []string{"Lex", "LEX", "1", "0", "lex lex", "grev", "gr", "auto", "lex\n", "revlex"} {
			wantFault(t, s, "ring 4; \t"+order+"; x x", 9, api.ErrName)
		}
	}
}

func TestARingHasNoNames(t *testing.T) { // no polynomial has one then, though the ring be the same
	for _, ring := range []string{"ring 0; lex; x y", "ring 7; lex; x y", "ring 0; lex"} {
		s := usual(t)
		want(t, s, ring, "")
		want(t, s, "names", "")
		wantFault(t, s, "let f", 4, api.ErrName)
		wantFault(t, s, "drop g", 5, api.ErrNone)
		if a, is := s.Get("f"); is || a.Len() != 0 {
			t.Errorf("%s: f is a polynomial of %d terms", ring, a.Len())
		}
	}
}

func TestARingKeepsTheChoices(t *testing.T) {
	s := started(t, primes, points)
	for _, ring := range []string{"ring 0; lex; x y", "ring 0; grlex; y x", "ring 0; lex; x y"} {
		want(t, s, ring, "")
		want(t, s, "gcd (x+1)*x^2; (x+1)*y", "x + 1")
	}
	s = started(t, "ring 0; lex; x y")
	wantFault(t, s, "gcd (x+1)*x^2; (x+1)*y", 0, api.ErrBudget)
}

func TestPrimesAndPoints(t *testing.T) { // the choices of gcd; none without the argument
	s := usual(t)
	wantFault(t, s, "gcd f; g", 0, api.ErrBudget)
	want(t, s, points, "")
	wantFault(t, s, "gcd f; g", 0, api.ErrBudget)
	want(t, s, primes, "")
	want(t, s, "gcd f; g", "x + y")
	want(t, s, "h = gcd f; f", "x^2 + 2*x*y + y^2")
	want(t, s, "points", "")
	wantFault(t, s, "gcd f; g", 0, api.ErrBudget)
	want(t, s, "points \t 1 2 3 4 5 6 7 8 9 10 11 12 ", "")
	want(t, s, "gcd f; g", "x + y")
	want(t, s, "primes ", "")
	wantFault(t, s, "gcd f; g", 0, api.ErrBudget)
	want(t, s, "primes 3 4", "")
	wantFault(t, s, "h = gcd f; g", 4, api.ErrPrime)
	want(t, s, "primes 18446744073709551615", "")
	wantFault(t, s, "gcd f; g", 0, api.ErrPrime)
	wantFault(t, s, "gcd x^201; y", 0, api.ErrArg)
}

func TestDivisorsOverAField(t *testing.T) { // by the points alone
	s := started(t, "ring 9223372036854775783; lex; x y", "primes 4")
	wantFault(t, s, "gcd x^2 - y^2; (x+y)^2", 0, api.ErrBudget)
	want(t, s, points, "")
	want(t, s, "gcd x^2 - y^2; (2*x+2*y)^2", "x + y")
	want(t, s, "gcd 0; 5*x", "x")
}

func TestNames(t *testing.T) { // rising, byte by byte, with a blank between each two
	s := started(t, "ring 0; lex; x")
	want(t, s, "names", "")
	for _, name := range []string{"b", "a_", "B", "a", "aB", "A1", "a1", "A", "ab", "a10", "a2"} {
		want(t, s, name+" = let x", "x")
	}
	want(t, s, " names ", "A A1 B a a1 a10 a2 aB a_ ab b")
}

func TestDrop(t *testing.T) { // it is no name any more; ErrNone, if it was none
	s := usual(t)
	want(t, s, "drop f", "")
	want(t, s, "names", "g")
	wantFault(t, s, "let f", 4, api.ErrName)
	wantFault(t, s, "drop f", 5, api.ErrNone)
	for _, name := range []string{"x", "h", "G", "gg", "g g", "g\n", "1", "(", "drop", "g = g", times("g", 500)} {
		wantFault(t, s, "drop  "+name, 6, api.ErrNone)
	}
	want(t, s, "f = let 3", "3")
	want(t, s, "drop \tg\t", "")
	want(t, s, "names", "f")
	want(t, s, "drop f", "")
	want(t, s, "names", "")
}

func TestSumsAndProducts(t *testing.T) { // add, sub, mul, by, pow
	s := usual(t)
	want(t, s, "add f; g", "2*x^2 + 2*x*y")
	want(t, s, "sub f; g", "2*x*y + 2*y^2")
	want(t, s, "sub g; f", "-2*x*y - 2*y^2")
	want(t, s, "sub f; f", "0")
	want(t, s, "mul f; g", "x^4 + 2*x^3*y - 2*x*y^3 - y^4")
	want(t, s, "mul x+1;x-1", "x^2 - 1")
	want(t, s, "by heap; f; g", "x^4 + 2*x^3*y - 2*x*y^3 - y^4")
	want(t, s, "by crt; f; g", "x^4 + 2*x^3*y - 2*x*y^3 - y^4")
	want(t, s, "by auto; f; g", "x^4 + 2*x^3*y - 2*x*y^3 - y^4")
	want(t, s, "pow x+1; 3", "x^3 + 3*x^2 + 3*x + 1")
	want(t, s, "pow f; 0", "1")
	want(t, s, "pow -2*x; 5", "-32*x^5")
	s = started(t, "ring 5; lex; x")
	want(t, s, "add 3*x; 2*x", "0")
	want(t, s, "sub 1; 3*x", "2*x + 1")
	want(t, s, "pow x+1; 5", "x^5 + 1")
}

func TestLimitsOfProducts(t *testing.T) { // at the verb
	s := started(t, "ring 0; lex; x y")
	wantFault(t, s, "f = mul x^1048576; x", 4, api.ErrLimit)
	wantFault(t, s, "by heap; x^1048576; x", 0, api.ErrLimit)
	wantFault(t, s, "by crt; x^1048576; x", 0, api.ErrLimit)
	wantFault(t, s, "pow x^1049; 1000", 0, api.ErrLimit)
	want(t, s, "pow x^1048; 1000", "x^1048000")
	wantFault(t, s, "pow 0; 1001", 0, api.ErrArg)
	want(t, s, "f = pow x+1; 400", answerOf(t, s, "let (x+1)^400"))
	want(t, s, "g = pow y+1; 300", answerOf(t, s, "let (y+1)^300"))
	wantFault(t, s, "mul f; g", 0, api.ErrLimit)
}

// answerOf is the answer of a line.
func answerOf(t *testing.T, s *session.Session, line string) string {
	t.Helper()
	answer, at, err := s.Do(line)
	if err != api.OK {
		t.Errorf("Do of %q: error %d at %d", short(line), int(err), at)
	}
	return answer
}

func TestWaysAreToldApart(t *testing.T) { // each has its own limits
	s := started(t, "ring 7; lex; x y")
	high := func(way string, n int) string { return fmt.Sprintf("by %s; x^%d + 1; x + 1", way, n) }
	for way, most := range map[string]int{"box": 65534, "kron": 262142, "heap": mostCount - 1, "auto": mostCount - 1} {
		n := most
		want(t, s, high(way, n), fmt.Sprintf("x^%d + x^%d + x + 1", n+1, n))
		if way == "kron" || way == "box" {
			wantFault(t, s, high(way, n+1), 0, api.ErrLimit)
		}
	}
	wantFault(t, s, high("crt", 1), 0, api.ErrArg)
	s = started(t, "ring 0; lex; x y")
	want(t, s, "by heap; 2^4000*x; y", answerOf(t, s, "let 2^4000*x*y"))
	want(t, s, "by auto; 2^4000*x; y", answerOf(t, s, "let 2^4000*x*y"))
	want(t, s, "mul 2^4000*x; y", answerOf(t, s, "let 2^4000*x*y"))
	want(t, s, "by crt; 2^3998*x; y", answerOf(t, s, "let 2^3998*x*y"))
	wantFault(t, s, "by crt; 2^4000*x; y", 0, api.ErrLimit)
}

func TestOnesOwnChoiceTakesMore(t *testing.T) { // mul, pow: more pairs of terms than a heap takes
	s := started(t, "ring 9223372036854775783; lex; x", "a = let (x+1)^1000", "a = mul a; a", "b = pow x+1; 500", "a = mul a; b")
	want(t, s, "len a", "2501")
	wantFault(t, s, "by heap; a; a", 0, api.ErrLimit)
	product := answerOf(t, s, "c = mul a; a")
	want(t, s, "by auto; a; a", product)
	want(t, s, "pow a; 2", product)
	want(t, s, "len c", "5001")
}

func TestQuotients(t *testing.T) { // div, quo, rem, times
	s := usual(t)
	want(t, s, "div f; x + y", "x + y")
	want(t, s, "div 0; x", "0")
	want(t, s, "quo x^2+1; x+y", "x - y")
	want(t, s, "rem x^2+1; x+y", "y^2 + 1")
	want(t, s, "quo 3*x; 2", "0")
	want(t, s, "rem 3*x; 2", "3*x")
	want(t, s, "times f; x+y", "2")
	want(t, s, "times f; x-y", "0")
	want(t, s, "times f; f", "1")
	wantFault(t, s, "div f; x", 0, api.ErrInexact)
	wantFault(t, s, "div 3*x; 2", 0, api.ErrInexact)
	for _, verb := range []string{"div", "quo", "rem"} {
		wantFault(t, s, verb+" f; 0", 0, api.ErrDivZero)
		wantFault(t, s, verb+" 0; 0", 0, api.ErrDivZero)
		wantFault(t, s, "h = "+verb+" x^1048576*y; x^2*y + y^1048576", 4, api.ErrLimit)
	}
	wantFault(t, s, "times f; 0", 0, api.ErrDivZero)
	wantFault(t, s, "times 0; x", 0, api.ErrArg)
	wantFault(t, s, "times f; 1", 0, api.ErrArg)
	wantFault(t, s, "times f; -1", 0, api.ErrArg)
	want(t, s, "times 12; 2", "2")
	want(t, s, "times (x+1)^12; x+1", "12")
}

func TestCalculus(t *testing.T) { // diff, subst, prim, cont, deg, len
	s := usual(t)
	want(t, s, "diff f; x", "2*x + 2*y")
	want(t, s, "diff x; y", "0")
	want(t, s, "subst x^2; x; y + 1", "y^2 + 2*y + 1")
	want(t, s, "subst f; y; -x", "0")
	want(t, s, "subst x + y; y; f", "x^2 + 2*x*y + x + y^2")
	want(t, s, "prim -4*x + 6", "2*x - 3")
	want(t, s, "cont -4*x+6", "2")
	want(t, s, "cont 0", "0")
	want(t, s, "prim 0", "0")
	want(t, s, "cont 36893488147419103232*x", "36893488147419103232")
	want(t, s, "deg f", "2")
	want(t, s, "deg 0", "-1")
	want(t, s, "deg -7", "0")
	want(t, s, "deg x^3*y^4 + x^5", "7")
	want(t, s, "len f", "3")
	want(t, s, "len 0", "0")
	want(t, s, "len (x+y)^99", "100")
	wantFault(t, s, "subst x^1001; x; y", 0, api.ErrLimit)
	want(t, s, "ring 7; lex; x y", "")
	want(t, s, "prim 3*x + 5", "x + 4")
	want(t, s, "cont 3*x + 6", "1")
	want(t, s, "diff x^7 + x^2; x", "2*x")
}

func TestValues(t *testing.T) { // eval
	s := usual(t)
	want(t, s, "eval f; 1 -3", "4")
	want(t, s, "eval g; -1 3", "-8")
	want(t, s, "eval 0; 5 5", "0")
	want(t, s, "eval y; 0 10000000000000000000000", "10000000000000000000000")
	wantFault(t, s, "eval x^262145; 1 1", 0, api.ErrLimit)
	want(t, s, "eval x^262144; 1 1", "1")
	want(t, s, "ring 7; lex; x y", "")
	want(t, s, "eval x - y; 1 3", "5")
	want(t, s, "eval x - y; 100000000000000000000 -1", "3")
	want(t, s, "ring 0; lex", "")
	want(t, s, "eval 5", "5")
	wantFault(t, s, "eval 5; 1", 0, api.ErrArg)
}

func TestSparse(t *testing.T) { // ask, find
	s := started(t, "ring 97; lex; x y")
	want(t, s, "ask 3*x + y; 4", "4 9 21 51")
	want(t, s, "ask 3*x + y; 1", "4")
	want(t, s, "ask 3*x + y; 0", "")
	want(t, s, "ask 0; 3", "0 0 0")
	want(t, s, "find 4 9 21 51; 1 2 3 4 5 6", "3*x + y")
	want(t, s, "a = find 4 9 21 51; 1 2 3 4 5 6", "3*x + y")
	want(t, s, "let a", "3*x + y")
	want(t, s, "find 0 0; 1", "0")
	want(t, s, "find 4 9 21 51; 6 2", "3*x + y")
	wantFault(t, s, "b = find 4 9 21 51; 6", 4, api.ErrBudget)
	wantFault(t, s, "find 4 9 21; 1 2 3", 0, api.ErrArg)
	wantFault(t, s, "ask x; 1001", 0, api.ErrArg)
	if got := strings.Fields(answerOf(t, s, "ask x; 1000")); len(got) != 1000 || got[999] != answerOf(t, s, "let 2^999") {
		t.Errorf("ask of 1000: %d numbers", len(got))
	}
	wantFault(t, s, "find "+times("0 ", 1002)+"; 1", 0, api.ErrLimit)
	wantFault(t, s, "find 0 1; 1", 0, api.ErrInexact)
	s = usual(t)
	wantFault(t, s, "ask f; 2", 0, api.ErrArg)
	wantFault(t, s, "f = find 1 1; 1", 4, api.ErrArg)
}
