package lang_test

import (
	"fmt"
	"math/big"
	"strings"
	"testing"

	"vinculum/api"
	"vinculum/bigint"
	"vinculum/lang"
	"vinculum/mpoly"
)

func wantPrint(t *testing.T, a mpoly.Poly, want string) {
	t.Helper()
	if got := lang.Print(a); got != want {
		t.Errorf("Print over %v: got %q, want %q", a.Ring(), short(got), short(want))
	}
}

func TestPrint(t *testing.T) { // P22.3
	r := overZ()
	wantPrint(t, mpoly.Poly{}, "0")
	wantPrint(t, made(t, r), "0")
	wantPrint(t, made(t, r, list{0, 3, 4}), "0")
	wantPrint(t, made(t, r, list{1, 0, 0}), "1")
	wantPrint(t, made(t, r, list{-1, 0, 0}), "-1")
	wantPrint(t, made(t, r, list{2, 0, 0}), "2")
	wantPrint(t, made(t, r, list{-12, 0, 0}), "-12")
	wantPrint(t, made(t, r, list{1, 1, 0}), "x")
	wantPrint(t, made(t, r, list{-1, 0, 1}), "-y")
	wantPrint(t, made(t, r, list{1, 2, 1}), "x^2*y")
	wantPrint(t, made(t, r, list{-3, 1, 10}), "-3*x*y^10")
	wantPrint(t, made(t, r, list{10, 0, 1}), "10*y")
	wantPrint(t, made(t, r, list{-11, 1048576, 0}), "-11*x^1048576")
	wantPrint(t, made(t, r, list{-1, 0, 0}, list{1, 1, 1}, list{-1, 2, 0}, list{5, 0, 3}, list{-12, 0, 1}), "-x^2 + x*y + 5*y^3 - 12*y - 1")
	wantPrint(t, made(t, r, list{1, 1, 0}, list{1, 0, 0}), "x + 1")
	wantPrint(t, made(t, r, list{1, 1, 0}, list{-1, 0, 0}), "x - 1")
	wantPrint(t, made(t, r, list{-1, 1, 0}, list{-1, 0, 1}), "-x - y")
	wantPrint(t, made(t, r, list{-2, 1, 0}, list{2, 0, 1}, list{1, 0, 2}), "-2*x + y^2 + 2*y")
}

func TestPrintOverOtherRings(t *testing.T) { // P22.3: over a field no coefficient is below 0
	wantPrint(t, made(t, ring(7, api.Lex, 2), list{-1, 1, 0}, list{10, 0, 1}, list{-8, 0, 0}), "6*x + 3*y + 6")
	wantPrint(t, made(t, ring(2, api.Lex, 2), list{-1, 1, 0}, list{3, 0, 1}, list{5, 0, 0}), "x + y + 1")
	wantPrint(t, made(t, ring(greatest, api.Lex, 1), list{-1, 1}, list{-2, 0}), "9223372036854775782*x + 9223372036854775781")
	wantPrint(t, made(t, ring(0, api.Lex, 0), list{-5}), "-5")
	wantPrint(t, made(t, ring(0, api.Lex, 0), list{1}), "1")
	wantPrint(t, made(t, ring(5, api.GrLex, 0)), "0")
	rows := []list{{1, 2, 0, 1}, {-1, 0, 4, 0}, {2, 1, 1, 1}, {-3, 1, 2, 0}, {1, 0, 0, 0}}
	wantPrint(t, made(t, ring(0, api.Lex, 3), rows...), "x^2*z - 3*x*y^2 + 2*x*y*z - y^4 + 1")
	wantPrint(t, made(t, ring(0, api.GrLex, 3), rows...), "-y^4 + x^2*z - 3*x*y^2 + 2*x*y*z + 1")
	wantPrint(t, made(t, ring(0, api.GrevLex, 3), rows...), "-y^4 - 3*x*y^2 + x^2*z + 2*x*y*z + 1")
	wantPrint(t, made(t, ring(0, api.Lex, 8), list{-4, 1, 2, 3, 4, 5, 6, 7, 8}, list{1, 0, 0, 0, 1, 0, 1, 0, 1}), "-4*x*y^2*z^3*a_1^4*B^5*t0^6*u^7*w^8 + a_1*t0*w")
	other := api.Ring{Vars: []string{"y", "x"}, Order: api.Lex}
	wantPrint(t, made(t, other, list{1, 0, 1}, list{2, 1, 1}), "2*y*x + x")
}

func TestPrintOfLongNumbers(t *testing.T) { // P22.3
	for _, digits := range []string{"18446744073709551616", "9223372036854775808", "340282366920938463463374607431768211456", "1" + times("0", mostDigits+5)} {
		x, _ := new(big.Int).SetString(digits, 10)
		c := numberOf(t, x)
		a := polyOf(t, overZ(), []mpoly.Term{{E: list{1, 0}, C: c.Neg()}, {E: list{0, 0}, C: c}, {E: list{0, 2}, C: c.Neg()}})
		wantPrint(t, a, "-"+digits+"*x - "+digits+"*y^2 + "+digits)
	}
}

// numberOf is a number of math/big, by its words.
func numberOf(t *testing.T, x *big.Int) bigint.Int {
	t.Helper()
	var words []uint64
	abs := new(big.Int).Abs(x)
	for ; abs.Sign() != 0; abs.Rsh(abs, 64) {
		words = append(words, new(big.Int).And(abs, new(big.Int).SetUint64(1<<64-1)).Uint64())
	}
	return bigint.From(x.Sign() < 0, words)
}

// plainPrint is a polynomial's text, of the terms as they fall: at first with all signs,
// coefficients and exponents, and then without those that are missing.
func plainPrint(a mpoly.Poly) string {
	if a.Len() == 0 {
		return "0"
	}
	var b strings.Builder
	for _, x := range a.Terms() {
		c := x.C.Print()
		if !strings.HasPrefix(c, "-") {
			c = "+" + c
		}
		fmt.Fprintf(&b, " %s %s", c[:1], c[1:])
		for v, n := range x.E {
			if n != 0 {
				fmt.Fprintf(&b, "*%s^%d.", a.Ring().Vars[v], n)
			}
		}
	}
	s := strings.NewReplacer("^1.", "", ".", "").Replace(b.String())
	s = strings.NewReplacer(" 1*", " ").Replace(s)
	if s = strings.TrimPrefix(s, " + "); strings.HasPrefix(s, " - ") {
		s = "-" + s[3:]
	}
	return s
}

func TestAnyPrint(t *testing.T) { // P22.3
	s := source(11)
	for _, r := range rings() {
		for range 60 {
			a := polyOf(t, r, s.terms(s.below(8), len(r.Vars), 1+s.below(15)))
			wantPrint(t, a, plainPrint(a))
		}
	}
}

// wantRead holds Read of a text that is printed so.
func wantRead(t *testing.T, r api.Ring, s string) {
	t.Helper()
	a, err := lang.Read(r, s)
	want, _, _ := lang.Parse(r, s)
	if err != api.OK || !a.Is(want) || lang.Print(a) != s {
		t.Errorf("Read over %v of %q: %q, error %d", r, short(s), short(lang.Print(a)), int(err))
	}
}

func wantNotRead(t *testing.T, r api.Ring, s string, want api.Errno) {
	t.Helper()
	if a, err := lang.Read(r, s); err != want || !nothing(a) {
		t.Errorf("Read over %v of %q: %d terms, error %d, want %d", r, short(s), a.Len(), int(err), int(want))
	}
}

func TestRead(t *testing.T) { // P22.3
	for _, s := range []string{"0", "1", "-1", "x", "-x", "x + y", "x - y", "-x^2 + x*y + 5*y^3 - 12*y - 1", "2*x*y", "x^1048576", "12345678901234567890*x - 7"} {
		wantRead(t, overZ(), s)
	}
	wantRead(t, ring(7, api.Lex, 2), "6*x + 3")
	wantRead(t, ring(0, api.GrLex, 2), "y^2 + x")
	wantRead(t, ring(0, api.Lex, 0), "-5")
}

func TestReadOfOtherTexts(t *testing.T) { // P22.3: of such as are parsed, but are not printed so
	for _, s := range []string{"x+y", "y + x", "1*x", "-0", "+x", "x ", " x", "x  + y", "x + y ", "x\u00d7y", "x\u00b7y", "\u2212x", "(x)", "--x", "x + -y", "x^1", "x^0", "y*x", "x*2", "2*x*x", "x*1", "x + 0", "x + x", "0*x", "2 + 3", "2^3", "x*x", "x - -1", "-1*x", "x +\ty", "x +\ny", "- x", "y^2 + x", "2*3"} {
		if _, _, err := lang.Parse(overZ(), s); err != api.OK {
			t.Errorf("Parse of %q: error %d", s, int(err))
		}
		wantNotRead(t, overZ(), s, api.ErrSyntax)
	}
	for _, s := range []string{"7", "-1", "8*x", "-x", "x - 1", "7*x"} {
		wantNotRead(t, ring(7, api.Lex, 2), s, api.ErrSyntax)
	}
	wantNotRead(t, ring(0, api.GrLex, 2), "x + y^2", api.ErrSyntax)
}

func TestReadHasParsesErrors(t *testing.T) { // P22.3
	for s, want := range map[string]api.Errno{"": api.ErrSyntax, "x +": api.ErrSyntax, "q": api.ErrName, "x + q": api.ErrName, "007": api.ErrSyntax, "x^1048577": api.ErrLimit, "(x + y)^1001": api.ErrLimit, times("(", mostDepth+1): api.ErrDepth, times("x", mostBytes+1): api.ErrLimit, times("1", mostDigits+1): api.ErrLimit, "x^1048576*x": api.ErrLimit, ";": api.ErrSyntax} {
		wantNotRead(t, overZ(), s, want)
	}
}
