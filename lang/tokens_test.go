package lang_test

import (
	"regexp"
	"slices"
	"strings"
	"testing"
	"unicode/utf8"

	"vinculum/api"
	"vinculum/lang"
)

// wantTokens holds Tokens of a text that has no error.
func wantTokens(t *testing.T, s string, want ...lang.Token) {
	t.Helper()
	l, at, err := lang.Tokens(s)
	if err != api.OK || at != 0 || !slices.Equal(l, want) {
		t.Errorf("Tokens of %q: got %d, error %d at %d, want %d, or others", short(s), len(l), int(err), at, len(want))
	}
}

// wantNoTokens holds Tokens' error, and its place.
func wantNoTokens(t *testing.T, s string, at int, want api.Errno) {
	t.Helper()
	l, got, err := lang.Tokens(s)
	if err != want || got != at || len(l) > 0 {
		t.Errorf("Tokens of %q: got %d, error %d at %d, want error %d at %d", short(s), len(l), int(err), got, int(want), at)
	}
}

func number(s string, at int) lang.Token { return lang.Token{Kind: lang.Number, Text: s, At: at} }

func name(s string, at int) lang.Token { return lang.Token{Kind: lang.Name, Text: s, At: at} }

func sign(s string, at int) lang.Token { return lang.Token{Kind: lang.Sign, Text: s, At: at} }

func TestKinds(t *testing.T) {
	if lang.Number != 1 || lang.Name != 2 || lang.Sign != 3 {
		t.Error(lang.Number, lang.Name, lang.Sign)
	}
}

func TestTokens(t *testing.T) { // P22.1
	wantTokens(t, "")
	wantTokens(t, " \t\n \n\t")
	wantTokens(t, "12", number("12", 0))
	wantTokens(t, "+-*^()", sign("+", 0), sign("-", 1), sign("*", 2), sign("^", 3), sign("(", 4), sign(")", 5))
	wantTokens(t, "x", name("x", 0))
	wantTokens(t, " x_1Y__ ", name("x_1Y__", 1))
	wantTokens(t, "-x^2 + 3\u00b7x*y \u2212 1", sign("-", 0), name("x", 1), sign("^", 2), number("2", 3), sign("+", 5), number("3", 7), sign("*", 8), name("x", 10), sign("*", 11), name("y", 12), sign("-", 14), number("1", 18))
	wantTokens(t, "a\tb\nc d", name("a", 0), name("b", 2), name("c", 4), name("d", 6))
}

func TestTokensBesideOneAnother(t *testing.T) { // P22.1: each is as long as may be
	wantTokens(t, "12ab34+5", number("12", 0), name("ab34", 2), sign("+", 6), number("5", 7))
	wantTokens(t, "0x", number("0", 0), name("x", 1))
	wantTokens(t, "0 0", number("0", 0), number("0", 2))
	wantTokens(t, "10 1 0", number("10", 0), number("1", 3), number("0", 5))
	wantTokens(t, "x(y)z", name("x", 0), sign("(", 1), name("y", 2), sign(")", 3), name("z", 4))
	wantTokens(t, "x007", name("x007", 0))
	wantTokens(t, "AZaz09_", name("AZaz09_", 0))
}

func TestRunesOfSigns(t *testing.T) { // P22.1: of two bytes, and of three
	wantTokens(t, "\u2212", sign("-", 0))
	wantTokens(t, "\u00b7\u00d7\u2212\u00b7", sign("*", 0), sign("*", 2), sign("-", 4), sign("*", 7))
	wantTokens(t, "x\u2212y\u00b7z\u00d72", name("x", 0), sign("-", 1), name("y", 4), sign("*", 5), name("z", 7), sign("*", 8), number("2", 10))
	for _, c := range []string{"\u2013", "\u2014", "\u00ad", "\u2010", "\u2219", "\u22c5", "\u2022", "\u2715", "\u00f7", "\u2217", "\uff0b", "\uff08", "\u00b2", "\u0661", "\u00e9", "\u0391", "\u00a0", "\u2003", "\ufeff", "\U0001d465", "\ufffd"} {
		wantNoTokens(t, c, 0, api.ErrSyntax)
		wantNoTokens(t, "x"+c, 1, api.ErrSyntax)
		wantNoTokens(t, "12"+c+"3", 2, api.ErrSyntax)
		wantNoTokens(t, "\u00d7 "+c, 3, api.ErrSyntax)
	}
}

// ofRune is what Tokens of a text of one rune answers.
func ofRune(c rune) ([]lang.Token, api.Errno) {
	s := string(c)
	switch {
	case strings.Contains(" \t\n", s):
		return nil, api.OK
	case strings.Contains("0123456789", s):
		return []lang.Token{number(s, 0)}, api.OK
	case strings.Contains("abcdefghijklmnopqrstuvwxyzABCDEFGHIJKLMNOPQRSTUVWXYZ", s):
		return []lang.Token{name(s, 0)}, api.OK
	case strings.Contains("+-*^()", s):
		return []lang.Token{sign(s, 0)}, api.OK
	case s == "−":
		return []lang.Token{sign("-", 0)}, api.OK
	case s == "·" || s == "×":
		return []lang.Token{sign("*", 0)}, api.OK
	default:
		return nil, api.ErrSyntax
	}
}

func TestEveryRune(t *testing.T) { // P22.1
	for c := rune(0); c <= utf8.MaxRune; c++ {
		want, wantErr := ofRune(c)
		if l, at, err := lang.Tokens(string(c)); !slices.Equal(l, want) || at != 0 || err != wantErr {
			t.Errorf("Tokens of the rune %U: %v, error %d at %d", c, l, int(err), at)
		}
	}
}

func TestEveryByte(t *testing.T) { // P22.1: also of those that are no rune's
	for c := range 256 {
		s := string([]byte{byte(c)})
		wantErr := api.ErrSyntax
		if c < 128 {
			_, wantErr = ofRune(rune(c))
		}
		if _, at, err := lang.Tokens(s); at != 0 || err != wantErr {
			t.Errorf("Tokens of the byte %d: error %d at %d", c, int(err), at)
		}
		if c < 128 {
			continue
		}
		for _, ahead := range []string{"x", "12 ", "(\u2212", "\u00b7"} {
			wantNoTokens(t, ahead+s, len(ahead), api.ErrSyntax)
			wantNoTokens(t, ahead+s+"y", len(ahead), api.ErrSyntax)
		}
	}
}

func TestBrokenRunes(t *testing.T) { // P22.1
	for _, s := range []string{"\xe2\x88", "\xe2", "\xc2", "\xc3", "\x92", "\xb7", "\x97", "\xe2\x88x", "\xc2 ", "\xc0\xab", "\xe0\x80\xab", "\xed\xa0\x80", "\xf4\x90\x80\x80"} {
		wantNoTokens(t, s, 0, api.ErrSyntax)
		wantNoTokens(t, "y + "+s, 4, api.ErrSyntax)
	}
	wantNoTokens(t, "\u2212\x88\x92", 3, api.ErrSyntax)
}

func TestNumbers(t *testing.T) { // P22.1
	most, more := times("1", mostDigits), times("1", mostDigits+1)
	wantTokens(t, "0", number("0", 0))
	wantTokens(t, "1000", number("1000", 0))
	wantTokens(t, most, number(most, 0))
	wantTokens(t, "x "+most+" 2", name("x", 0), number(most, 2), number("2", mostDigits+3))
	for _, s := range []string{"00", "01", "007", "0123456789", times("0", 50), "0" + most, "0" + more} {
		wantNoTokens(t, s, 0, api.ErrSyntax)
		wantNoTokens(t, "x^"+s, 2, api.ErrSyntax)
		wantNoTokens(t, "x^"+s+"y", 2, api.ErrSyntax)
	}
	wantNoTokens(t, more, 0, api.ErrLimit)
	wantNoTokens(t, "x*"+more+" + y", 2, api.ErrLimit)
	wantTokens(t, "x"+more, name("x"+more, 0))
}

func TestTheFirstFault(t *testing.T) { // P22.1: the one that begins first
	more := times("9", mostDigits+1)
	wantNoTokens(t, "x 007 ;", 2, api.ErrSyntax)
	wantNoTokens(t, "x 007;", 2, api.ErrSyntax)
	wantNoTokens(t, "; 007", 0, api.ErrSyntax)
	wantNoTokens(t, "1;007", 1, api.ErrSyntax)
	wantNoTokens(t, "00 "+more, 0, api.ErrSyntax)
	wantNoTokens(t, more+" 00", 0, api.ErrLimit)
	wantNoTokens(t, more+";", 0, api.ErrLimit)
	wantNoTokens(t, more+"\xff", 0, api.ErrLimit)
	wantNoTokens(t, " ;"+more, 1, api.ErrSyntax)
	wantNoTokens(t, "_x", 0, api.ErrSyntax)
	wantNoTokens(t, "2_", 1, api.ErrSyntax)
	wantNoTokens(t, "x+_", 2, api.ErrSyntax)
	wantNoTokens(t, "x\r\n", 1, api.ErrSyntax)
	wantNoTokens(t, "x/y", 1, api.ErrSyntax)
	wantNoTokens(t, "x**y.", 4, api.ErrSyntax)
	wantNoTokens(t, "[x]", 0, api.ErrSyntax)
	wantNoTokens(t, "x\x00", 1, api.ErrSyntax)
}

func TestLongTexts(t *testing.T) { // P22.1
	wantTokens(t, times(" ", mostBytes))
	wantTokens(t, times("x", mostBytes), name(times("x", mostBytes), 0))
	if l, at, err := lang.Tokens(times("+", mostBytes)); len(l) != mostBytes || at != 0 || err != api.OK {
		t.Errorf("Tokens of %d signs: %d, error %d at %d", mostBytes, len(l), int(err), at)
	}
	wantNoTokens(t, times(" ", mostBytes-1)+";", mostBytes-1, api.ErrSyntax)
	for _, s := range []string{" ", "x", "1", "0", ";", "\xff", "+"} {
		wantNoTokens(t, times(s, mostBytes+1), 0, api.ErrLimit)
	}
	// Bytes are counted, not runes.
	wantNoTokens(t, times("\u2212", mostBytes/3+1), 0, api.ErrLimit)
	if l, _, err := lang.Tokens(times("\u00b7", mostBytes/2)); len(l) != mostBytes/2 || err != api.OK {
		t.Errorf("Tokens of %d dots: %d, error %d", mostBytes/2, len(l), int(err))
	}
}

// plainTokens are a text's, one taken off after the other, by a pattern.
func plainTokens(s string) ([]lang.Token, int, api.Errno) {
	pattern := regexp.MustCompile(`^(?:([0-9]+)|([a-zA-Z][a-zA-Z0-9_]*)|([-+*^()])|(\x{2212})|([\x{b7}\x{d7}])|[ \t\n])`)
	var l []lang.Token
	for at := 0; at < len(s); {
		m := pattern.FindStringSubmatch(s[at:])
		switch {
		case m == nil, len(m[1]) > 1 && m[1][0] == '0':
			return nil, at, api.ErrSyntax
		case m[1] != "":
			l = append(l, number(m[1], at))
		case m[2] != "":
			l = append(l, name(m[2], at))
		case m[3] != "":
			l = append(l, sign(m[3], at))
		case m[4] != "":
			l = append(l, sign("-", at))
		case m[5] != "":
			l = append(l, sign("*", at))
		}
		at += len(m[0])
	}
	return l, 0, api.OK
}

// anyText is up to so many pieces, one behind the other.
func (s *source) anyText(most int) string {
	var b strings.Builder
	for range s.below(most + 1) {
		b.WriteString(s.one("x", "y", "z0", "_", "0", "1", "7", "20", "+", "-", "*", "^", "(", ")", "\u2212", "\u00b7", "\u00d7", " ", "\t", "\n", " "))
		if s.below(60) == 0 {
			b.WriteString(s.one(";", "\xe2", "\x88", "\u00e9", ".", "\r", "\x00", "\xff"))
		}
	}
	return b.String()
}

func TestAnyTokens(t *testing.T) { // P22.1
	s := source(1)
	fine := 0
	for range 40000 {
		text := s.anyText(12)
		want, wantAt, wantErr := plainTokens(text)
		got, at, err := lang.Tokens(text)
		if !slices.Equal(got, want) || at != wantAt || err != wantErr {
			t.Errorf("Tokens of %q: got %v, error %d at %d, want %v, error %d at %d", text, got, int(err), at, want, int(wantErr), wantAt)
		}
		if err == api.OK {
			fine++
		}
	}
	if fine < 10000 || fine > 35000 {
		t.Errorf("%d of 40000 texts have tokens: too many of one kind", fine)
	}
}
