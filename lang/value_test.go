package lang_test

import (
	"math/big"
	"strconv"
	"strings"
	"testing"

	"vinculum/api"
	"vinculum/bigint"
	"vinculum/lang"
	"vinculum/mpoly"
)

func TestValues(t *testing.T) { // P22.2
	for s, want := range map[string]string{
		"(x+y)*(x-y)": "x^2 - y^2", "-x^2 + 3\u00b7x*y \u2212 1": "-x^2 + 3*x*y - 1",
		"x": "x", "y": "y", "0": "0", "7": "7", "-7": "-7", "+7": "7", "x-x": "0", "-0": "0", "0*x": "0", "x*0*y": "0",
		"1 - 2 - 3": "-4", "x - y - x": "-y", "x - (y - x)": "2*x - y", "2 + 3*4": "14", "(2 + 3)*4": "20", "2*3^2": "18", "(2*3)^2": "36",
		"-x^2": "-x^2", "(-x)^2": "x^2", "-2^2": "-4", "(-2)^3": "-8", "--x": "x", "---x": "-x", "+-+y": "-y", "-+-y": "y", "x--y": "x + y", "x+-y": "x - y", "x-+y": "x - y",
		"2*-3*x": "-6*x", "-2*-3": "6", "x*-y^2": "-x*y^2", "-(x - y)": "-x + y", "-(x - y)*2": "-2*x + 2*y", "-(-(x))": "x",
		"((x))": "x", "(x)^1": "x", "y*x": "x*y", "y*x*12345678901234567890": "12345678901234567890*x*y", "y^2 + x": "x + y^2", "1 + x + x^2": "x^2 + x + 1",
		"(x + 1)*(x + 2)*(x + 3)": "x^3 + 6*x^2 + 11*x + 6", "(x + y)^3 - x^3 - y^3": "3*x^2*y + 3*x*y^2", "(x - 1)*(x + 1) + 1": "x^2", "((x + 1)^2 - 1)^2": "x^4 + 4*x^3 + 4*x^2",
		"2\u00d7x\u2212-1": "2*x + 1", "\tx\n+\ty ": "x + y",
	} {
		wantText(t, overZ(), s, want)
	}
}

func TestPowers(t *testing.T) { // P22.2: the atom's value, as often as the Number says
	for s, want := range map[string]string{
		"x^0": "1", "x^1": "x", "x^2": "x^2", "(x + y)^0": "1", "(x + y)^1": "x + y", "0^0": "1", "0^1": "0", "0^5": "0", "(x-x)^0": "1", "(x-x)^3": "0", "5^0": "1", "1^0": "1", "(-1)^0": "1",
		"(2*x)^10": "1024*x^10", "(-x)^3": "-x^3", "(-2*x*y^3)^5": "-32*x^5*y^15", "(3*x^2)^4": "81*x^8", "10^20": "100000000000000000000", "(x+1)^3": "x^3 + 3*x^2 + 3*x + 1", "(x-y)^2": "x^2 - 2*x*y + y^2",
		"(x^2)^3": "x^6", "2^2*2^3": "32", "2^3 - 2^2": "4", "-(2^2)": "-4", "(x + 1 - x)^7": "1",
	} {
		wantText(t, overZ(), s, want)
	}
	for n := range 40 {
		power := new(big.Int).Exp(big.NewInt(-3), big.NewInt(int64(n)), nil)
		c, _ := bigint.Parse(power.String())
		wantParsed(t, overZ(), "(-3*x*y^2)^"+strconv.Itoa(n), polyOf(t, overZ(), []mpoly.Term{{E: list{n, 2 * n}, C: c}}))
	}
}

func TestValuesOfAField(t *testing.T) { // P22.2: numbers are taken modulo P; those behind a `^` are not
	for s, want := range map[string]string{
		"10*x - 1 + 7*y + (x+y)^7 - x^7 - y^7": "3*x + 6", "7": "0", "-1": "6", "-x": "6*x", "14*x": "0", "x - 8*x": "0", "x^7": "x^7", "x^8 - x": "x^8 + 6*x", "(7*x)^0": "1", "7^0": "1", "7^3": "0",
		"3^6": "1", "3^1048576": "4", "(2*x)^100000": "2*x^100000", "-x^2 + 3*x": "6*x^2 + 3*x", "99999999999999999999": "1", "6*6": "1", "3 + 4": "0", "(x + 6)*(x + 1)": "x^2 + 6",
	} {
		wantText(t, ring(7, api.Lex, 2), s, want)
	}
	wantText(t, ring(2, api.GrLex, 2), "(x+y)^2 - 3*x + 4*y - 1", "x^2 + y^2 + x + 1")
	wantText(t, ring(greatest, api.Lex, 1), "9223372036854775783*x + 9223372036854775784", "1")
	wantText(t, ring(greatest, api.Lex, 1), "-1*x - 2", "9223372036854775782*x + 9223372036854775781")
	wantText(t, ring(greatest, api.Lex, 1), "9223372036854775782^1048575*x", "9223372036854775782*x")
}

func TestPowersOfAField(t *testing.T) { // P22.2: a number's power has no limit of bits
	p := big.NewInt(greatest)
	for _, n := range []int{0, 1, 2, 3, 1000, 1001, 4999, 1048575, 1048576} {
		want := new(big.Int).Exp(big.NewInt(1234567890123456789), big.NewInt(int64(n)), p)
		c, _ := bigint.Parse(want.String())
		wantParsed(t, ring(greatest, api.Lex, 2), "(1234567890123456789*y)^"+strconv.Itoa(n), polyOf(t, ring(greatest, api.Lex, 2), []mpoly.Term{{E: list{0, n}, C: c}}))
	}
	long, _ := new(big.Int).SetString(times("9", mostDigits), 10)
	wantText(t, ring(greatest, api.Lex, 0), long.String()+"^1048576", new(big.Int).Exp(long, big.NewInt(mostExp), p).String())
}

func TestOtherOrdersAndRings(t *testing.T) { // P22.2
	s := "x^2 + x*y*z + y^4 + x^2*z + z^4"
	wantText(t, ring(0, api.Lex, 3), s, "x^2*z + x^2 + x*y*z + y^4 + z^4")
	wantText(t, ring(0, api.GrLex, 3), s, "y^4 + z^4 + x^2*z + x*y*z + x^2")
	wantText(t, ring(0, api.GrevLex, 3), s+" + y^2*x", "y^4 + z^4 + x*y^2 + x^2*z + x*y*z + x^2")
	wantText(t, ring(0, api.Lex, 0), "2*(3 - 5)^3", "-16")
	wantText(t, ring(5, api.GrevLex, 0), "-2*(3 - 5)^3 ", "1")
	wantText(t, ring(0, api.Lex, 8), "(u*w + t0*B - a_1)*z", "-z*a_1 + z*B*t0 + z*u*w")
}

func TestLongNumbers(t *testing.T) { // P22.2
	most := "1" + times("0", mostDigits-1)
	wantText(t, overZ(), most+"*x - "+most, most+"*x - "+most)
	wantText(t, overZ(), most+"*"+most, most+times("0", mostDigits-1))
	left, _ := new(big.Int).SetString(most, 10)
	wantText(t, ring(998244353, api.Lex, 1), most, left.Mod(left, big.NewInt(998244353)).String())
}

func TestTooGreatPowers(t *testing.T) { // P22.2: of any value
	for _, s := range []string{"0", "1", "x", "(-1)", "(x+y)", "(x-x)", "2", "7"} {
		for _, n := range []string{"1048577", "2097152", "9223372036854775808", "18446744073709551616", "18446744073709551617", times("9", mostDigits)} {
			wantFault(t, overZ(), s+"^"+n, len(s), api.ErrLimit)
			wantFault(t, overZ(), s+" ^ "+n+" + 1", len(s)+1, api.ErrLimit)
			wantFault(t, ring(7, api.GrLex, 2), s+"^"+n, len(s), api.ErrLimit)
		}
	}
	wantText(t, overZ(), "0^1048576", "0")
	wantText(t, overZ(), "1^1048576", "1")
	wantText(t, overZ(), "(-1)^1048576 + (-1)^1048575*x", "-x + 1")
	wantText(t, overZ(), "(x-x)^1048576", "0")
}

func TestPowersOfSums(t *testing.T) { // P22.2: of two terms or more up to the 1000th
	for _, p := range []uint64{0, 2, 7} {
		r := ring(p, api.Lex, 2)
		a, at, err := lang.Parse(r, "(x + y)^1000")
		if err != api.OK || at != 0 || a.In(0) != mostPower || p == 0 && a.Len() != mostPower+1 {
			t.Errorf("the %dth power modulo %d: %d terms, error %d at %d", mostPower, p, a.Len(), int(err), at)
		}
		for _, n := range []string{"1001", "1002", "1048576"} {
			wantFault(t, r, "(x + y)^"+n, 7, api.ErrLimit)
			wantFault(t, r, "1 - (1 + y) ^"+n+"*q", 14+len(n), api.ErrName)
			wantFault(t, r, "1 - (1 + y) ^"+n, 12, api.ErrLimit)
		}
	}
	// What comes to one term is one.
	wantText(t, overZ(), "(x + y - y)^1001", "x^1001")
	wantText(t, ring(2, api.Lex, 2), "(x + 2*y)^1001", "x^1001")
	wantText(t, overZ(), "(x + y - y - x)^1001", "0")
}

func TestTooHighPowersOfTerms(t *testing.T) { // P22.2
	for _, p := range []uint64{0, 7} {
		r := ring(p, api.GrLex, 2)
		wantText(t, r, "x^1048576", "x^1048576")
		wantText(t, r, "(x*y)^1048576", "x^1048576*y^1048576")
		wantText(t, r, "(x^1024)^1024", "x^1048576")
		wantText(t, r, "(y^1048576)^1", "y^1048576")
		wantText(t, r, "(y^1048576)^0", "1")
		wantText(t, r, "(x*y^3)^349525", "x^349525*y^1048575")
		wantFault(t, r, "(x*y^3)^349526", 7, api.ErrLimit)
		wantFault(t, r, "(x^2)^1048576", 5, api.ErrLimit)
		wantFault(t, r, "(y^2)^524289", 5, api.ErrLimit)
		wantFault(t, r, "(x^1024*y)^1025", 10, api.ErrLimit)
		wantFault(t, r, "(x^1048576)^2", 11, api.ErrLimit)
		wantFault(t, r, "(x^1048576)^1048576", 11, api.ErrLimit)
		wantText(t, r, "(0*x^2)^1048576", "0")
	}
	wantText(t, ring(7, api.GrLex, 2), "(7*x^2)^1048576", "0")
}

func TestTooLongPowersOfNumbers(t *testing.T) { // P22.2: over the integers, of such as are neither 1 nor -1
	power := func(base, n int64) string {
		return new(big.Int).Exp(big.NewInt(base), big.NewInt(n), nil).String()
	}
	wantText(t, overZ(), "2^131072", power(2, 131072))
	wantText(t, overZ(), "(-3*x)^131071", power(-3, 131071)+"*x^131071")
	wantText(t, overZ(), "4^87381*y", power(4, 87381)+"*y")
	for _, s := range []string{"2", "3"} {
		wantFault(t, overZ(), s+"^131073", 1, api.ErrLimit)
		wantFault(t, overZ(), "(-"+s+"*x)^131073", 6, api.ErrLimit)
		wantFault(t, overZ(), s+"^262144", 1, api.ErrLimit)
		wantFault(t, overZ(), s+"^1048576", 1, api.ErrLimit)
	}
	wantFault(t, overZ(), "4^87382", 1, api.ErrLimit)
	wantFault(t, overZ(), "x*(5*y)^87382", 7, api.ErrLimit)
	wantText(t, overZ(), "1^262145", "1")
	wantText(t, overZ(), "(-1)^262145", "-1")
	wantText(t, overZ(), "(-x)^1048575", "-x^1048575")
	wantText(t, ring(7, api.Lex, 2), "2^1048576", "2")
}

func TestPowersOfLongNumbers(t *testing.T) { // P22.2: Bits, times the Number; so 0 times goes, and once may not
	long := times("9", mostDigits)
	x, _ := new(big.Int).SetString(long, 10)
	if bits := x.BitLen(); 3*bits > mostBits || 4*bits <= mostBits {
		t.Fatal(bits)
	}
	wantText(t, overZ(), long+"^3", new(big.Int).Exp(x, big.NewInt(3), nil).String())
	wantFault(t, overZ(), long+"^4", mostDigits, api.ErrLimit)
	wantText(t, overZ(), "(2^131072)^1 - 2^131072", "0")
	wantFault(t, overZ(), "(2^131072)^2", 10, api.ErrLimit)
	// 2 to the 262143rd has as many bits as may be, twice that number has one more.
	wantText(t, overZ(), "(2^131072*2^131071)^1 - 2^131072*2^131071", "0")
	wantFault(t, overZ(), "(2^131072*2^131072)^1", 19, api.ErrLimit)
	wantText(t, overZ(), "(2^131072*2^131072)^0", "1")
	wantText(t, overZ(), "((2^131072*2^131072)*x + 1)^1 - (2^131072*2^131072)*x", "1")
}

func TestTooHighProducts(t *testing.T) { // P22.2: at the sign
	for _, p := range []uint64{0, 7} {
		r := ring(p, api.Lex, 2)
		wantText(t, r, "x^1048575*x*y^1048576", "x^1048576*y^1048576")
		wantFault(t, r, "x^1048576*x", 9, api.ErrLimit)
		wantFault(t, r, "y*x^1048576*y*x*x", 13, api.ErrLimit)
		wantFault(t, r, "1 + x^600000*(x^500000 + 1)", 12, api.ErrLimit)
		wantText(t, r, "0*x^1048576*x", "0")
		wantFault(t, r, "x^1048576*x*0", 9, api.ErrLimit)
		wantFault(t, r, "x^1048576\u00d7y \u00b7 x", 13, api.ErrLimit)
		wantFault(t, r, "(x^1048576 + 1)^2", 15, api.ErrLimit)
		wantFault(t, r, "(y^1049 + x)^1000", 12, api.ErrLimit)
	}
}

// grid is a text of a times b terms, a row of powers of x by one of y.
func grid(a, b int) string { return row("x", a) + "*" + row("y", b) }

// row is a text of n terms: the powers of a variable up to the one less than the nth.
func row(name string, n int) string {
	var b strings.Builder
	for i := range n {
		b.WriteString(" + " + name + "^" + strconv.Itoa(i))
	}
	return "(" + b.String()[3:] + ")"
}

func TestTooManyTerms(t *testing.T) { // P22.2: at the sign
	r := ring(7, api.Lex, 3)
	most := grid(1000, 100)
	a, at, err := lang.Parse(r, most)
	if a.Len() != mostTerms || at != 0 || err != api.OK {
		t.Fatalf("%d terms, error %d at %d", a.Len(), int(err), at)
	}
	wantFault(t, r, most+" + z", len(most)+1, api.ErrLimit)
	wantFault(t, r, most+" - z + z", len(most)+1, api.ErrLimit)
	wantFault(t, r, "z\u2212"+most, 1, api.ErrLimit)
	wantFault(t, r, most+" - 1 + z + z^2 - q", len(most)+17, api.ErrName)
	wantFault(t, r, most+" - 1 + z + z^2", len(most)+9, api.ErrLimit)
	wantFault(t, r, most+"*(x + z)", len(most), api.ErrLimit)
	wantFault(t, r, "(x*(-"+most+" + z))^2", len(most)+6, api.ErrLimit)
	wantParsed(t, r, most+" - x + x", a)
	l := a.Terms()
	l[mostTerms-1] = mpoly.Term{E: list{0, 0, 1}, C: bigint.Of(1)}
	wantParsed(t, r, most+" - 1 + z", polyOf(t, r, l))
}

func TestSumsAboutTheLimit(t *testing.T) { // P22.2: the sum of what is ahead of a sign, and of what is behind it, whatever follows
	r := ring(0, api.GrLex, 3)
	a, b := grid(300, 200), grid(200, 300) // 60000 terms, 40000 of them in both
	wantParsed(t, r, a+" - "+a, made(t, r))
	sum, _, err := lang.Parse(r, a+" + "+b)
	if sum.Len() != 80000 || err != api.OK {
		t.Errorf("%d terms, error %d", sum.Len(), int(err))
	}
	one, _, _ := lang.Parse(r, a)
	wantParsed(t, r, a+" + "+b+" - "+b, one)
	both := a + " + " + b
	wantFault(t, r, both+" - z*"+a+" + z*"+a, len(both)+1, api.ErrLimit)
	wantFault(t, r, both+" + z*"+row("x", 150)+"*"+row("y", 100)+" - z^2*"+row("x", 101)+"*"+row("y", 50), len(both+" + z*"+row("x", 150)+"*"+row("y", 100))+1, api.ErrLimit)
	many, _, err := lang.Parse(r, both+" + z*"+row("x", 150)+"*"+row("y", 100)+" - z^2*"+row("x", 100)+"*"+row("y", 50))
	if many.Len() != mostTerms || err != api.OK {
		t.Errorf("%d terms, error %d", many.Len(), int(err))
	}
}

func TestManyTermsAgainAndAgain(t *testing.T) { // P22.2: each part counts once, at whichever sign the terms are too many to be left apart
	r := ring(0, api.GrLex, 3)
	parts := []string{grid(300, 200), "z*" + grid(100, 100), grid(250, 150), "1", "z*" + grid(10, 10), "z*" + grid(110, 100), grid(200, 190), "x - z", grid(300, 199), "y"}
	text, want := "0", made(t, r)
	for i, part := range parts {
		a, _, err := lang.Parse(r, part)
		if err != api.OK {
			t.Fatal(int(err))
		}
		if i%3 == 2 {
			text, want = text+" - ("+part+")", fine(t)(want.Sub(a))
		} else {
			text, want = text+" + "+part, fine(t)(want.Add(a))
		}
	}
	wantParsed(t, r, text, want)
}

func TestTooManyProducts(t *testing.T) { // P22.2: Mul's and Pow's limits, at the sign
	r := ring(2, api.Lex, 2)
	a, b := row("x", 2000), row("x", 2001)
	if product, _, err := lang.Parse(r, a+"*"+a); err != api.OK || product.In(0) != 3998 {
		t.Errorf("4000000 pairs: error %d", int(err))
	}
	wantFault(t, r, a+"*"+b, len(a), api.ErrLimit)
	wantFault(t, r, "1 + "+b+"^2", 4+len(b), api.ErrLimit)
	all := "(1 + " + strings.Join(names(8), " + ") + ")"
	if power, _, err := lang.Parse(ring(0, api.Lex, 8), all+"^11"); power.Len() != 75582 || err != api.OK {
		t.Errorf("the 11th power: %d terms, error %d", power.Len(), int(err))
	}
	wantFault(t, ring(0, api.Lex, 8), "u*"+all+"^12 + 1", 2+len(all), api.ErrLimit)
}

func TestTheOrderOfValues(t *testing.T) { // P22.2: from the left on, what stands within first
	wantFault(t, overZ(), "x^1048576*x + y^1048577", 9, api.ErrLimit)
	wantFault(t, overZ(), "y^1048577 + x^1048576*x", 1, api.ErrLimit)
	wantFault(t, overZ(), "x^1048576*x*y^1048577", 9, api.ErrLimit)
	wantFault(t, overZ(), "x^1048576*(x + y^1048577)", 16, api.ErrLimit)
	wantFault(t, overZ(), "x^1048576*x^1048577", 11, api.ErrLimit)
	wantFault(t, overZ(), "(x^1048577)^1048577", 2, api.ErrLimit)
	wantFault(t, overZ(), "(x + y^1048577)^1001", 6, api.ErrLimit)
	wantFault(t, overZ(), "(x + y)^1001*2^262144", 7, api.ErrLimit)
	wantFault(t, overZ(), "-(x + -2^262144)*y", 8, api.ErrLimit)
	wantFault(t, overZ(), "2*-(-(x^1048577))", 7, api.ErrLimit)
	wantFault(t, overZ(), "1 - x^2*-x^1048576", 7, api.ErrLimit)
	wantFault(t, overZ(), "0*(x + y)^1001", 9, api.ErrLimit)
	wantFault(t, overZ(), "(x^1048576*x)^0", 10, api.ErrLimit)
	// What is wrong with the tokens goes ahead of all limits.
	wantFault(t, overZ(), "x^1048577+q", 10, api.ErrName)
	wantFault(t, overZ(), "x^1048577*", 10, api.ErrSyntax)
	wantFault(t, overZ(), "x^1048577*"+times("(", 65), 74, api.ErrDepth)
	wantFault(t, overZ(), "(x^1048577", 10, api.ErrSyntax)
}

// fine is what a call answers, where there is to be no error.
func fine(t *testing.T) func(a mpoly.Poly, err api.Errno) mpoly.Poly {
	return func(a mpoly.Poly, err api.Errno) mpoly.Poly {
		t.Helper()
		if err != api.OK {
			t.Fatalf("error %d", int(err))
		}
		return a
	}
}

func TestValuesByMpoly(t *testing.T) { // P22.2, T1: those of the ring
	s := source(4)
	for _, r := range rings() {
		for range 30 {
			a, b := polyOf(t, r, s.terms(s.below(5), len(r.Vars), 4)), polyOf(t, r, s.terms(s.below(5), len(r.Vars), 4))
			n := s.below(4)
			left, right := "("+lang.Print(a)+")", "("+lang.Print(b)+")"
			for text, want := range map[string]func() (mpoly.Poly, api.Errno){
				left + "+" + right:                   func() (mpoly.Poly, api.Errno) { return a.Add(b) },
				left + "-" + right:                   func() (mpoly.Poly, api.Errno) { return a.Sub(b) },
				left + "*" + right:                   func() (mpoly.Poly, api.Errno) { return a.Mul(b) },
				"-" + left:                           func() (mpoly.Poly, api.Errno) { return a.Neg(), api.OK },
				left + "^" + strconv.Itoa(n):         func() (mpoly.Poly, api.Errno) { return a.Pow(n) },
				"+" + right + "^ " + strconv.Itoa(n): func() (mpoly.Poly, api.Errno) { return b.Pow(n) },
				"(" + left + ")*1 \u2212 0*" + right: func() (mpoly.Poly, api.Errno) { return a, api.OK },
			} {
				wantParsed(t, r, text, fine(t)(want()))
			}
		}
	}
}
