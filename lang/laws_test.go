package lang_test

import (
	"strconv"
	"strings"
	"testing"

	"vinculum/api"
	"vinculum/lang"
	"vinculum/mpoly"
)

func TestWhatIsPrintedIsRead(t *testing.T) { // P22.4, T3
	s := source(21)
	for _, r := range rings() {
		for range 40 {
			a := polyOf(t, r, s.terms(s.below(12), len(r.Vars), 1+s.below(12)))
			text := lang.Print(a)
			wantParsed(t, r, text, a)
			if b, err := lang.Read(r, text); err != api.OK || !b.Is(a) {
				t.Errorf("Read over %v of %q: error %d", r, short(text), int(err))
			}
		}
	}
}

func TestLongTextsAreRead(t *testing.T) { // P22.4: of many terms, and of high powers
	s := source(22)
	for _, r := range []api.Ring{ring(0, api.GrevLex, 8), ring(0, api.Lex, 2), ring(7, api.GrLex, 1), ring(greatest, api.Lex, 3)} {
		a := polyOf(t, r, s.terms(1400, len(r.Vars), 1000))
		text := lang.Print(a)
		if len(text) > mostBytes || a.Len() < 400 {
			t.Errorf("over %v: %d terms, a text of %d bytes", r, a.Len(), len(text))
		}
		wantParsed(t, r, text, a)
	}
	high := made(t, overZ(), list{3, mostExp, mostExp}, list{-1, mostExp, 0}, list{1, 0, mostExp - 1})
	wantParsed(t, overZ(), lang.Print(high), high)
}

func TestEachTextHasAnAnswer(t *testing.T) { // P22.4, R1: a polynomial, or an error at a place from 0 to its length
	s := source(23)
	all := append(rings(), api.Ring{}, ring(6, api.Lex, 1))
	for range 30000 {
		r, text := all[s.below(len(all))], s.anyText(9)
		a, at, err := lang.Parse(r, text)
		switch {
		case err == api.OK && (at != 0 || !mpoly.Same(a.Ring(), r)):
			t.Errorf("Parse over %v of %q: of the ring %v, at %d", r, text, a.Ring(), at)
		case err != api.OK && (at < 0 || at > len(text) || !nothing(a)):
			t.Errorf("Parse over %v of %q: error %d at %d, beside %d terms", r, text, int(err), at, a.Len())
		}
	}
}

func TestAnyBytes(t *testing.T) { // P22.4, R1
	s := source(24)
	for range 20000 {
		b := make([]byte, s.below(20))
		for i := range b {
			b[i] = byte(s.word())
		}
		text := string(b)
		wantTokens, wantAt, want := plainTokens(text)
		if l, at, err := lang.Tokens(text); len(l) != len(wantTokens) || at != wantAt || err != want {
			t.Errorf("Tokens of %q: %d, error %d at %d", text, len(l), int(err), at)
		}
		if want != api.OK {
			wantFault(t, overZ(), text, wantAt, want)
			continue
		}
		holds(t, overZ(), text)
	}
}

// writing is a polynomial written down anyhow: its terms in any order, with brackets, signs
// and blanks that change nothing.
func (s *source) writing(a mpoly.Poly) string {
	l := a.Terms()
	text := s.one("0", "-0", "(1 - 1)", "0*2^3")
	for len(l) > 0 {
		i := s.below(len(l))
		x := l[i]
		l = append(l[:i], l[i+1:]...)
		var factors []string
		for v, n := range x.E {
			name := a.Ring().Vars[v]
			factors = append(factors, s.one(name+"^"+strconv.Itoa(n), "("+name+")^ "+strconv.Itoa(n), "1"+times("*"+name, n)))
		}
		c := x.C.Print()
		factors = append(factors, s.one("("+c+")", "("+c+" + 0)", c, "-(-("+c+"))", "+"+c))
		i = s.below(len(factors))
		factors[0], factors[i] = factors[i], factors[0]
		text = s.one("", " ", "\n") + text + s.one("+", " + ", "--", " \u2212 -", "+\t+") + strings.Join(factors, s.one("*", " * ", "\u00b7", "\u00d7"))
		if s.below(5) == 0 {
			text = "(" + text + s.one("", " ") + ")"
		}
	}
	return text
}

func TestTheSameIsPrintedAlike(t *testing.T) { // P22.4, T3
	s := source(25)
	for _, r := range rings() {
		for range 20 {
			a := polyOf(t, r, s.terms(s.below(6), len(r.Vars), 1+s.below(6)))
			want := lang.Print(a)
			for range 3 {
				wantText(t, r, s.writing(a), want)
			}
		}
	}
}

func TestOthersArePrintedApart(t *testing.T) { // P22.4
	for _, r := range []api.Ring{ring(0, api.Lex, 2), ring(3, api.GrevLex, 2)} {
		texts := map[string]mpoly.Poly{}
		for i := range 3 * 3 * 3 * 3 {
			a := made(t, r, list{i%3 - 1, 0, 0}, list{i/3%3 - 1, 1, 0}, list{i/9%3 - 1, 0, 1}, list{i/27%3 - 1, 1, 2})
			text := lang.Print(a)
			if b, is := texts[text]; is && !a.Is(b) {
				t.Errorf("over %v: two polynomials are printed as %q", r, text)
			}
			texts[text] = a
		}
		if len(texts) != 81 {
			t.Errorf("over %v: %d texts of 81 polynomials", r, len(texts))
		}
	}
}
