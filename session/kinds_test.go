package session_test

import (
	"testing"

	"vinculum/api"
)

func TestPolynomials(t *testing.T) { // A, B: that of a name; else that of a text
	s := usual(t)
	want(t, s, "let f", "x^2 + 2*x*y + y^2")
	want(t, s, "let \t f \t", "x^2 + 2*x*y + y^2")
	want(t, s, "let x + y", "x + y")
	want(t, s, "let (x+y)*\n(x-y)\n", "x^2 - y^2")
	want(t, s, "let \u2212x\u00b7y\u00d72", "-2*x*y")
	want(t, s, "add g; f", "2*x^2 + 2*x*y")
	want(t, s, "add f; f", "2*x^2 + 4*x*y + 2*y^2")
	wantFault(t, s, "let f + 1", 4, api.ErrName)
	wantFault(t, s, "let (f)", 5, api.ErrName)
	wantFault(t, s, "let F", 4, api.ErrName)
	wantFault(t, s, "let f\n", 4, api.ErrName)
	wantFault(t, s, "let \nf", 5, api.ErrName)
}

func TestNamesGoAheadOfTexts(t *testing.T) { // A, B: what has a name is not parsed
	s := started(t, "ring 0; lex; x", "names = let x + 1", "X = let 2*x")
	want(t, s, "mul names; X", "2*x^2 + 2*x")
	want(t, s, "let X", "2*x")
	want(t, s, "drop X", "")
	wantFault(t, s, "let X", 4, api.ErrName)
}

func TestPlacesOfTexts(t *testing.T) { // A, B: the place that Parse tells, from the argument's on
	s := usual(t)
	for line, at := range map[string]int{"let (x": 6, "let (x  \t": 6, "let  \t(x": 8, "add x^^2; x": 6, "add x;x^^2": 8, "let x y": 6, "f = let #": 8, "let x =": 6} {
		wantFault(t, s, line, at, api.ErrSyntax)
	}
	for line, at := range map[string]int{"let \u2212x\u00b7q": 10, "add x ;  x + q": 13, "h = add x ;  x + q": 17, "subst f;x;\ty*(x-q)": 16, "let f-g": 4} {
		wantFault(t, s, line, at, api.ErrName)
	}
	wantFault(t, s, "let x^1048577", 5, api.ErrLimit)
	wantFault(t, s, "let 2 + (x+y)^1001", 13, api.ErrLimit)
	wantFault(t, s, "let "+times("(", 65), 68, api.ErrDepth)
	wantFault(t, s, "let x\n+", 7, api.ErrSyntax)
	wantFault(t, s, "let \n", 5, api.ErrSyntax)
}

func TestCounts(t *testing.T) { // N: ErrSyntax, if it is no number from 0 on; ErrLimit above 1048576
	s := usual(t)
	want(t, s, "pow x; 3", "x^3")
	want(t, s, "pow x; 0", "1")
	want(t, s, "pow x;\t1000", "x^1000")
	for _, n := range []string{"x", "-1", "-0", "+1", "1.0", "01", "00", "1 2", "1\n", "0x1", "1_0", "-", "\u0661", "-1048577", "-18446744073709551616", "f"} {
		wantFault(t, s, "pow x;  "+n, 8, api.ErrSyntax)
		wantFault(t, s, "ask x;  "+n, 8, api.ErrSyntax)
	}
	for _, n := range []string{"1048577", "2000000", "9223372036854775807", "9223372036854775808", "18446744073709551615", "18446744073709551616", times("9", 9000)} {
		wantFault(t, s, "pow x; "+n, 7, api.ErrLimit)
		wantFault(t, s, "ask x; "+n, 7, api.ErrLimit)
	}
	for _, n := range []string{"1001", "1048576"} {
		wantFault(t, s, "pow x; "+n, 0, api.ErrArg)
		wantFault(t, s, "ask x; "+n, 0, api.ErrArg)
	}
}

func TestVariables(t *testing.T) { // X: ErrName, if it is none
	s := usual(t)
	want(t, s, "diff f; x", "2*x + 2*y")
	want(t, s, "diff f; \ty", "2*x + 2*y")
	want(t, s, "diff g; y", "-2*y")
	want(t, s, "subst g; y; 1", "x^2 - 1")
	want(t, s, "subst g; x; 1", "-y^2 + 1")
	for _, v := range []string{"f", "X", "xy", "x y", "z", "1", "0", "(x)", "x\n", "-x"} {
		wantFault(t, s, "diff f; "+v, 8, api.ErrName)
		wantFault(t, s, "subst f; "+v+"; x", 9, api.ErrName)
	}
	s = started(t, "ring 0; lex; a b c d e f g h")
	want(t, s, "diff 2*a + 3*h; h", "3")
	want(t, s, "diff 2*a + 3*h; a", "2")
	s = started(t, "ring 0; lex")
	wantFault(t, s, "diff 2; x", 8, api.ErrName)
}

func TestWays(t *testing.T) { // WAY: one of five; else ErrName
	s := usual(t)
	for _, way := range []string{"auto", "heap", "crt"} {
		want(t, s, "by "+way+" ; f; x", "x^3 + 2*x^2*y + x*y^2")
	}
	wantFault(t, s, "by kron; f; x", 0, api.ErrArg)
	wantFault(t, s, "by box; f; x", 0, api.ErrArg)
	for _, way := range []string{"no", "Auto", "HEAP", "f", "0", "1", "heap kron", "heap\n", "lex", "-"} {
		wantFault(t, s, "by \t"+way+"; f; x", 4, api.ErrName)
	}
	s = started(t, "ring 7; lex; x y")
	for _, way := range []string{"auto", "heap", "kron", "box"} {
		want(t, s, "by "+way+"; x + 1; x + 6", "x^2 + 6")
	}
	wantFault(t, s, "by crt; x + 1; x + 6", 0, api.ErrArg)
}

// wrongNumbers are none from 0 on.
func wrongNumbers() []string {
	return []string{"x", "-1", "-0", "+1", "01", "1.5", "1,2", "0x1", "-", "\n", "\u0661", "-18446744073709551616", "1\n2", "_", "1_000"}
}

func TestLists(t *testing.T) { // L: the first number that is wrong has the error, at its own place
	s := usual(t)
	for _, verb := range []string{"primes", "points"} {
		for _, l := range []string{"0", "1", "1 2 3", "1\t \t2", "18446744073709551615 0", "  3 3  "} {
			want(t, s, verb+" "+l, "")
		}
		for _, n := range wrongNumbers() {
			wantFault(t, s, verb+" "+n, 7, api.ErrSyntax)
			wantFault(t, s, verb+" 1 \t 22  "+n+" 18446744073709551616 x", 15, api.ErrSyntax)
		}
		for _, n := range []string{"18446744073709551616", "18446744073709551617", "36893488147419103232", times("9", 5000)} {
			wantFault(t, s, verb+"  "+n, 8, api.ErrLimit)
			wantFault(t, s, verb+" 18446744073709551615\t\t"+n+" x", 29, api.ErrLimit)
		}
	}
	wantFault(t, s, "find 1 -1; x", 7, api.ErrSyntax)
	wantFault(t, s, "find 1 2; 3 4  x", 15, api.ErrSyntax)
	wantFault(t, s, "find 1 18446744073709551616; x", 7, api.ErrLimit)
	wantFault(t, s, "find 1 2 ; 18446744073709551616", 11, api.ErrLimit)
}

func TestWholeNumbers(t *testing.T) { // V: of any size and sign; else ErrSyntax
	s := usual(t)
	want(t, s, "eval f; 1 -3", "4")
	want(t, s, "eval f; \t1\t  -3\t", "4")
	want(t, s, "eval x; 18446744073709551616 0", "18446744073709551616")
	want(t, s, "eval y; 0 -340282366920938463463374607431768211456", "-340282366920938463463374607431768211456")
	want(t, s, "eval x; "+times("9", 4000)+" 1", times("9", 4000))
	for _, n := range []string{"x", "-0", "+1", "01", "-01", "1.5", "--1", "-", "- 1", "\n", "1\n2", "f"} {
		wantFault(t, s, "eval f; "+n, 8, api.ErrSyntax)
		wantFault(t, s, "eval f;  12 \t-7 "+n+" y", 16, api.ErrSyntax)
	}
	wantFault(t, s, "eval f; 1", 0, api.ErrArg)
	wantFault(t, s, "eval f; 1 2 3", 0, api.ErrArg)
	wantFault(t, s, "eval f", 0, api.ErrArg)
}
