package lang_test

import (
	"strings"
	"testing"

	"vinculum/api"
	"vinculum/lang"
)

// holds tells whether a text is parsed, and holds what is answered against the plain way.
func holds(t *testing.T, r api.Ring, s string) bool {
	t.Helper()
	tokens, wantAt, want := plainTokens(s)
	if want == api.OK {
		wantAt, want = plainFault(tokens, r.Vars, len(s))
	}
	if want != api.OK {
		wantFault(t, r, s, wantAt, want)
		return false
	}
	wantParsed(t, r, s, plainValue(tokens, r.Vars).poly(t, r))
	return true
}

func TestAllShortTexts(t *testing.T) { // P22.2: each of up to 6 tokens, out of 9
	many, fine := 0, 0
	var longer func(s string)
	longer = func(s string) {
		many++
		if holds(t, overZ(), s) {
			fine++
		}
		if len(s) == 6 || t.Failed() {
			return
		}
		// With an error at a token nothing else comes of more of them, but of one more.
		if _, at, err := lang.Parse(overZ(), s); err != api.OK && at < len(s)-1 {
			return
		}
		for _, c := range "+-*^()2xq" {
			longer(s + string(c))
		}
	}
	longer("")
	if fine < 2000 {
		t.Errorf("of %d texts %d alone are parsed", many, fine)
	}
}

func TestAnyTexts(t *testing.T) { // P22.2: over all rings, with blanks and runes
	s := source(2)
	all := rings()
	fine := 0
	for range 60000 {
		r := all[s.below(len(all))]
		if holds(t, r, s.likely(r.Vars, 1+s.below(12))) {
			fine++
		}
	}
	if fine < 10000 || fine > 50000 {
		t.Errorf("%d of 60000 texts are parsed: too many of one kind", fine)
	}
}

// likely is a text of so many tokens, most of them such as the grammar goes on with.
func (s *source) likely(vars []string, n int) string {
	var b strings.Builder
	ready := false
	for range n {
		b.WriteString(s.one("", "", "", " ", "\t", "\n "))
		switch {
		case s.below(30) == 0:
			b.WriteString(s.one("+", "-", "*", "^", "(", ")", "2", "q", "x", " y", "X", "x1", " 00"))
		case !ready && s.below(3) == 0:
			b.WriteString(s.one("(", "-", "+", "(", "\u2212"))
		case !ready:
			b.WriteString(s.one(append([]string{"0", "1", "2", "7", "15", "18446744073709551629"}, vars...)...))
			ready = true
		case s.below(4) == 0:
			b.WriteString(")")
		case s.below(4) == 0:
			b.WriteString("^" + s.one("0", "1", "2", "3"))
		default:
			b.WriteString(s.one("+", "-", "*", " \u2212", "\u00b7", "\u00d7"))
			ready = false
		}
	}
	return b.String()
}

func TestSyntax(t *testing.T) { // P22.2: at the token, or at the text's length
	for s, at := range map[string]int{
		"": 0, " ": 1, "\t\n ": 3, "x^^2": 2, "(x": 2, "(x ": 3, "x)": 1, "x y": 2, "2x": 1, "x 2": 2, "x+": 2, "x + ": 4, "*x": 0, "^2": 0, ")": 0, "()": 1,
		"x^y": 2, "x^": 2, "x^ ": 3, "x^2^3": 3, "x^-2": 2, "x^+2": 2, "x^(2)": 2, "x*": 2, "x**y": 2, "x*^2": 2, "x+*y": 2, "-": 1, "+": 1, "--": 2, "-)": 1, "(": 1, "((x)": 4, "(x))": 3,
		"(x+)": 3, "x(y)": 1, "(x)y": 3, "(x)(y)": 3, "(x) 2": 4, "2 3": 2, "x^2 3": 4, "x^2x": 3, "x^2(y)": 3, "-*x": 1, "(*x)": 1, "(^2)": 1, "x ^ 2 ^": 6, "x\u2212": 4, "x\u2212\u00b7y": 4, "\u00b7x": 0, "x \u00d7\u00d7y": 4,
	} {
		wantFault(t, overZ(), s, at, api.ErrSyntax)
	}
}

func TestTokensGoAheadOfTheGrammar(t *testing.T) { // P22.2
	more := times("1", mostDigits+1)
	wantFault(t, overZ(), "q + 007", 4, api.ErrSyntax)
	wantFault(t, overZ(), "x^^2 + ;", 7, api.ErrSyntax)
	wantFault(t, overZ(), ")q("+more, 3, api.ErrLimit)
	wantFault(t, overZ(), times("(", mostDepth+1)+"?", mostDepth+1, api.ErrSyntax)
	wantFault(t, overZ(), times(")", mostBytes+1), 0, api.ErrLimit)
	wantFault(t, overZ(), "x^1048577 \xff", 10, api.ErrSyntax)
	wantFault(t, overZ(), "x^01", 2, api.ErrSyntax)
	wantFault(t, overZ(), "x^"+more, 2, api.ErrLimit)
}

func TestTheRingGoesAheadOfAll(t *testing.T) { // P22.2
	bad := map[api.Errno][]api.Ring{
		api.ErrArg:   {{}, ring(0, 0, 2), ring(0, 4, 2), ring(6, -1, 2), {Vars: make([]string, 9), Order: api.Lex}},
		api.ErrName:  {{Vars: []string{"x", "x"}, Order: api.Lex}, {Vars: []string{"x", ""}, Order: api.GrLex}, {Vars: []string{"_x"}, Order: api.Lex}, {P: 6, Vars: []string{"2"}, Order: api.Lex}},
		api.ErrPrime: {ring(6, api.Lex, 2), ring(1, api.Lex, 0), ring(1<<63+29, api.Lex, 1), ring(greatest-1, api.GrevLex, 8)},
	}
	for want, all := range bad {
		for _, r := range all {
			for _, s := range []string{"x", "", "1", " ;", "q", "x + 00", times(" ", mostBytes+1), "x^1048577"} {
				wantFault(t, r, s, 0, want)
				if a, err := lang.Read(r, s); err != want || !nothing(a) {
					t.Errorf("Read over %v of %q: error %d, want %d", r, short(s), int(err), int(want))
				}
			}
		}
	}
}

func TestNames(t *testing.T) { // P22.2
	wantFault(t, overZ(), "x + q", 4, api.ErrName)
	wantFault(t, overZ(), "q", 0, api.ErrName)
	wantFault(t, overZ(), "x*X", 2, api.ErrName)
	wantFault(t, overZ(), "x + xy", 4, api.ErrName)
	wantFault(t, overZ(), "x_ + y", 0, api.ErrName)
	wantFault(t, overZ(), "x\u00d7\u00d7 + (x", 3, api.ErrSyntax)
	wantFault(t, overZ(), "(2*x)^3 - (y + z)", 15, api.ErrName)
	wantFault(t, ring(0, api.Lex, 0), "1 + x", 4, api.ErrName)
	wantFault(t, ring(7, api.GrLex, 3), "x*y*z*a_1", 6, api.ErrName)
	long := times("n", 32)
	r := api.Ring{Vars: []string{long, "n"}, Order: api.Lex}
	wantParsed(t, r, "n*"+long, made(t, r, list{1, 1, 1}))
	wantFault(t, r, "n*"+long+"n", 2, api.ErrName)
	wantFault(t, r, times("n", mostBytes), 0, api.ErrName)
}

func TestTheFirstFaultOfTheGrammar(t *testing.T) { // P22.2
	wantFault(t, overZ(), "q)", 0, api.ErrName)
	wantFault(t, overZ(), ")q", 0, api.ErrSyntax)
	wantFault(t, overZ(), "q q", 0, api.ErrName)
	wantFault(t, overZ(), "x q", 2, api.ErrSyntax)
	wantFault(t, overZ(), "x^q", 2, api.ErrSyntax)
	wantFault(t, overZ(), "(q", 1, api.ErrName)
	wantFault(t, overZ(), "(x q", 3, api.ErrSyntax)
	wantFault(t, overZ(), "q + "+times("(", mostDepth+1), 0, api.ErrName)
	wantFault(t, overZ(), times("(", mostDepth)+"q", mostDepth, api.ErrName)
	wantFault(t, overZ(), times("(", mostDepth)+")", mostDepth, api.ErrSyntax)
	wantFault(t, overZ(), times("(", mostDepth+1)+"q", mostDepth, api.ErrDepth)
	wantFault(t, overZ(), "x"+times("(", mostDepth+1), 1, api.ErrSyntax)
}

func TestDepth(t *testing.T) { // P22.2
	open, shut := times("(", mostDepth), times(")", mostDepth)
	wantText(t, overZ(), open+"x"+shut, "x")
	wantText(t, overZ(), times("-", mostDepth)+"x", "x")
	wantText(t, overZ(), times("-", mostDepth-1)+"x", "-x")
	wantText(t, overZ(), times("+", mostDepth)+"x", "x")
	wantText(t, overZ(), times("-(", mostDepth/2)+"x"+times(")", mostDepth/2), "x")
	for _, s := range []string{"(", "-", "+", "-(", "(-", "+(-", "((-+", "\u2212"} {
		s = times(s, mostDepth+1)
		runes := []rune(s)
		at := len(string(runes[:mostDepth]))
		wantFault(t, overZ(), s, at, api.ErrDepth)
		wantFault(t, overZ(), s+"x", at, api.ErrDepth)
		wantFault(t, overZ(), "x + y*"+s, 6+at, api.ErrDepth)
	}
	wantFault(t, overZ(), open+"-x"+shut, mostDepth, api.ErrDepth)
	wantFault(t, overZ(), times("-", mostDepth)+"(x)", mostDepth, api.ErrDepth)
	wantFault(t, overZ(), open+"x + y*(x", mostDepth+6, api.ErrDepth)
	wantFault(t, overZ(), open+"x + -y", mostDepth+4, api.ErrDepth)
	wantText(t, overZ(), open+"x + y - 1*2"+shut, "x + y - 2")
}

func TestWhatIsAtItsEnd(t *testing.T) { // P22.2: it is no longer around what stands behind it
	deep := times("(", mostDepth) + "x" + times(")", mostDepth)
	wantText(t, overZ(), deep+" + "+deep+"*"+deep+"^2", "x^3 + x")
	wantText(t, overZ(), times("-", mostDepth)+"x*"+times("-", mostDepth)+"x", "x^2")
	wantText(t, overZ(), times("-", mostDepth)+"x^2 - "+times("+", mostDepth)+"x", "x^2 - x")
	wantText(t, overZ(), "-x"+times("*-x", 99), "x^100")
	wantText(t, overZ(), "-x"+times("--x", 99), "98*x")
	wantText(t, overZ(), "(x)"+times("*(x)", 99), "x^100")
	wantText(t, overZ(), "-(x)"+times("+(-x)", 99), "-100*x")
	inner := times("(", mostDepth-1)
	wantText(t, overZ(), inner+"-x - -x*-y^2 + (y)*-1"+times(")", mostDepth-1), "-x*y^2 - x - y")
	wantFault(t, overZ(), inner+"-x - -(x)"+times(")", mostDepth-1), mostDepth+5, api.ErrDepth)
	wantFault(t, overZ(), inner+"-x*(x + (y))"+times(")", mostDepth-1), mostDepth+7, api.ErrDepth)
}

func TestDeepTexts(t *testing.T) { // P22.2: at about the greatest depth
	s := source(3)
	count := map[api.Errno]int{}
	for range 4000 {
		var b strings.Builder
		for range 55 + s.below(30) {
			b.WriteString(s.one("(", "(", "(", "(", "(", "-", "+", "x+(", "2*("))
		}
		b.WriteString("y")
		for range s.below(8) {
			b.WriteString(s.one("+x", "-y", "*2", ")", ")", "+(-x", "*-x", "-(x", "^1", "*--(-x)"))
		}
		text := b.String()
		tokens, _, _ := plainTokens(text)
		at, err := plainFault(tokens, overZ().Vars, len(text))
		for ; err == api.ErrSyntax && at == len(text); at, err = plainFault(tokens, overZ().Vars, len(text)) {
			tokens, text = append(tokens, sign(")", len(text))), text+")"
		}
		count[err]++
		holds(t, overZ(), text)
	}
	if count[api.OK] < 500 || count[api.ErrDepth] < 500 || count[api.ErrSyntax] < 20 {
		t.Errorf("too few texts of a kind: %v", count)
	}
}
