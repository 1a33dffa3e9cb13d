package session_test

import (
	"strconv"
	"strings"
	"testing"

	"vinculum/api"
	"vinculum/session"
)

// texts are of polynomials in x and y.
func (s *source) text(terms, below int) string {
	var l []string
	for range 1 + s.below(terms) {
		l = append(l, strconv.Itoa(1+s.below(9))+"*x^"+strconv.Itoa(s.below(below))+"*y^"+strconv.Itoa(s.below(below)))
	}
	return strings.Join(l, s.one(" + ", " - "))
}

func starts() []string {
	return []string{"ring 0; lex; x y", "ring 0; grevlex; x y", "ring 2; lex; x y", "ring 7; grlex; x y", "ring 9223372036854775783; grevlex; x y"}
}

func TestProductsAreTheSame(t *testing.T) { // P23.4, T1: whichever way is taken
	s := source(11)
	for _, ring := range starts() {
		x := started(t, ring)
		for range 20 {
			answerOf(t, x, "a = let "+s.text(6, 5))
			answerOf(t, x, "b = let "+s.text(6, 5))
			product := answerOf(t, x, "mul a; b")
			taken := 0
			for _, way := range []string{"auto", "heap", "kron", "box", "crt"} {
				for _, both := range []string{"a; b", "b; a"} {
					got, at, err := x.Do("by " + way + "; " + both)
					switch {
					case err == api.OK && got == product:
						taken++
					case err != api.ErrArg || got != "" || at != 0:
						t.Errorf("over %s: by %s; %s: got %q at %d, error %d, want %q", ring, way, both, short(got), at, int(err), short(product))
					}
				}
			}
			if taken < 6 {
				t.Errorf("over %s: %d products were taken", ring, taken)
			}
		}
	}
}

func TestAnswersAreAnsweredAgain(t *testing.T) { // P23.4, T3: let be
	s := source(12)
	for _, ring := range starts() {
		x := started(t, ring, primes, points)
		for range 30 {
			x.Do("a = let " + s.text(5, 4))
			x.Do("b = let " + s.text(5, 4))
			for _, line := range []string{"let a", "add a; b", "sub a; b", "mul a; b", "pow a; 3", "quo a; b", "rem a; b", "gcd a; b", "diff a; y", "subst a; y; b", "prim a", "find 1 1; 1 2 3", "div a; a", "sub a; a"} {
				answer, _, err := x.Do(line)
				if err == api.OK {
					want(t, x, "let "+answer, answer)
					want(t, x, "c = let "+answer, answer)
					want(t, x, "let c", answer)
				}
			}
		}
	}
}

func TestNamesAreToldApart(t *testing.T) { // P23.4
	x := started(t, "ring 0; lex; x y z")
	l := []string{"a", "A", "aa", "a_", "a_a", "a0", "a00", "a1", "b", "xx", "x_", "X", "let", "add", "names", "lex", times("n", 31), times("n", 32), times("n", 31) + "m", "N" + times("n", 31)}
	for i, name := range l {
		answerOf(t, x, name+" = let "+strconv.Itoa(i)+"*z + 1")
	}
	for i, name := range l {
		want(t, x, "sub "+name+"; "+strconv.Itoa(i)+"*z", "1")
	}
	want(t, x, "drop a", "")
	for i, name := range l[1:] {
		want(t, x, "sub "+name+"; "+strconv.Itoa(i+1)+"*z", "1")
	}
}

// laws are pairs of lines that have the same answer, each with what goes ahead of it.
func laws() [][2]string {
	return [][2]string{
		{"add a; b", "add b; a"},
		{"d = add a; b|add d; c", "d = add b; c|add a; d"},
		{"mul a; b", "mul b; a"},
		{"d = mul a; b|mul d; c", "d = mul b; c|mul a; d"},
		{"d = add a; b|mul d; c", "d = mul a; c|e = mul b; c|add d; e"},
		{"sub a; b", "d = sub b; a|mul -1; d"},
		{"pow a; 3", "d = mul a; a|mul d; a"},
		{"d = mul a; b|diff d; x", "d = diff a; x|d = mul d; b|e = diff b; x|e = mul a; e|add d; e"},
		{"d = add a; b|diff d; y", "d = diff a; y|e = diff b; y|add d; e"},
		{"d = mul a; b|subst d; x; c", "d = subst a; x; c|e = subst b; x; c|mul d; e"},
		{"d = mul a; b|d = div d; b|mul b; d", "mul a; b"},
		{"d = quo a; b|e = rem a; b|d = mul d; b|add d; e", "let a"},
		{"d = mul a; b|e = mul a; b|sub d; e", "let 0"},
		{"d = mul a; b|div d; a", "let b"},
	}
}

func last(t *testing.T, x *session.Session, lines string) string {
	t.Helper()
	answer := ""
	for line := range strings.SplitSeq(lines, "|") {
		answer = answerOf(t, x, line)
	}
	return answer
}

func TestLawsOfTheRing(t *testing.T) { // T1, T2
	s := source(13)
	for _, ring := range starts() {
		x := started(t, ring)
		for range 10 {
			for _, name := range []string{"a", "b", "c"} {
				answerOf(t, x, name+" = let x^5 + "+s.text(3, 4))
			}
			for _, law := range laws() {
				if left, right := last(t, x, law[0]), last(t, x, law[1]); left != right {
					t.Errorf("over %s: %s is %q, and %s is %q", ring, law[0], short(left), law[1], short(right))
				}
			}
		}
	}
}

func TestValuesOfProducts(t *testing.T) { // T1: the product of both values
	s := source(14)
	for _, ring := range starts() {
		x := started(t, ring)
		for range 20 {
			answerOf(t, x, "a = let "+s.text(4, 4))
			answerOf(t, x, "b = let "+s.text(4, 4))
			answerOf(t, x, "c = mul a; b")
			at := strconv.Itoa(s.below(9)-4) + " " + strconv.Itoa(s.below(9)-4)
			left := answerOf(t, x, "eval a; "+at)
			right := answerOf(t, x, "eval b; "+at)
			want(t, x, "eval c; "+at, answerOf(t, x, "mul "+left+"; "+right))
		}
	}
}

func TestDivisorsDivide(t *testing.T) { // T2: whichever choices there are
	s := source(15)
	for _, ring := range starts() {
		x := started(t, ring)
		found := 0
		for range 20 {
			answerOf(t, x, s.one(primes, "primes", "primes 3 5 7", "primes 4611686018427388039"))
			answerOf(t, x, s.one(points, points, "points", "points 0", "points 1 1 1"))
			answerOf(t, x, "c = let x + "+s.text(2, 3))
			answerOf(t, x, "a = mul c; "+s.text(2, 3))
			answerOf(t, x, "b = mul c; x^2*y + "+s.text(2, 3))
			d, at, err := x.Do("d = gcd a; b")
			if err != api.OK && (err != api.ErrBudget || at != 4) {
				t.Errorf("over %s: gcd: error %d at %d", ring, int(err), at)
			}
			if err != api.OK || d == "0" {
				continue
			}
			found++
			answerOf(t, x, "div a; d")
			answerOf(t, x, "div b; d")
			answerOf(t, x, "div d; c")
		}
		if found == 0 && ring != "ring 2; lex; x y" {
			t.Errorf("over %s: no divisor was found", ring)
		}
	}
}

func TestWhatIsAskedIsFound(t *testing.T) { // T1
	s := source(16)
	x := started(t, "ring 9223372036854775783; lex; x y")
	for range 20 {
		a := answerOf(t, x, "a = let "+s.text(5, 6))
		want(t, x, "find "+answerOf(t, x, "ask a; 12")+"; 1 2 3 4 5 6 7 8 9 10 11 12", a)
	}
}
