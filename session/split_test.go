package session_test

import (
	"regexp"
	"slices"
	"testing"

	"vinculum/api"
	"vinculum/session"
)

type word = session.Word

func sameLine(a, b session.Line) bool {
	return a.Name == b.Name && a.Verb == b.Verb && slices.Equal(a.Args, b.Args)
}

func wantLine(t *testing.T, s string, want session.Line) {
	t.Helper()
	if l, at, err := session.Split(s); !sameLine(l, want) || at != 0 || err != api.OK {
		t.Errorf("Split of %q: got %v at %d, error %d, want %v", short(s), l, at, int(err), want)
	}
}

func wantNoLine(t *testing.T, s string, place int, wrong api.Errno) {
	t.Helper()
	if l, at, err := session.Split(s); !sameLine(l, session.Line{}) || at != place || err != wrong {
		t.Errorf("Split of %q: got %v at %d, error %d, want error %d at %d", short(s), l, at, int(err), int(wrong), place)
	}
}

func TestSplit(t *testing.T) { // P23.1
	wantLine(t, "names", session.Line{Verb: word{"names", 0}})
	wantLine(t, "let x", session.Line{Verb: word{"let", 0}, Args: []word{{"x", 4}}})
	wantLine(t, "f = let x", session.Line{Name: word{"f", 0}, Verb: word{"let", 4}, Args: []word{{"x", 8}}})
	wantLine(t, "f=let x", session.Line{Name: word{"f", 0}, Verb: word{"let", 2}, Args: []word{{"x", 6}}})
	wantLine(t, "f=let", session.Line{Name: word{"f", 0}, Verb: word{"let", 2}})
	wantLine(t, " f = add\tx ; y+1", session.Line{Name: word{"f", 1}, Verb: word{"add", 5}, Args: []word{{"x", 9}, {"y+1", 13}}})
	wantLine(t, "a b;c;d;e", session.Line{Verb: word{"a", 0}, Args: []word{{"b", 2}, {"c", 4}, {"d", 6}, {"e", 8}}})
	wantLine(t, "\t a\t \t=\tb \t x \t y\t ;\t z \t", session.Line{Name: word{"a", 2}, Verb: word{"b", 8}, Args: []word{{"x \t y", 12}, {"z", 22}}})
}

func TestWords(t *testing.T) { // P23.1: a letter, and letters, digits and `_`
	for _, name := range []string{"a", "z", "A", "Z", "a_", "a0", "z9", "aZ_09_q", times("a", 500)} {
		wantLine(t, name, session.Line{Verb: word{name, 0}})
		wantLine(t, name+"="+name, session.Line{Name: word{name, 0}, Verb: word{name, len(name) + 1}})
	}
	for _, name := range []string{"0", "9", "_", "_a", "1a", "=", ";", "-", "@", "[", "`", "{", "/", ":", "\n", "\x00", "\x80", "\u00e9", "\u212a"} {
		wantNoLine(t, name, 0, api.ErrSyntax)
		wantNoLine(t, "a="+name, 2, api.ErrSyntax)
		wantNoLine(t, " \t"+name+" a", 2, api.ErrSyntax)
	}
}

func TestEachByteOfAWord(t *testing.T) { // P23.1
	letters := regexp.MustCompile(`^[A-Za-z]$`)
	others := regexp.MustCompile(`^[0-9_]$`)
	for c := range 256 {
		b := string([]byte{byte(c)})
		switch {
		case letters.MatchString(b):
			wantLine(t, b, session.Line{Verb: word{b, 0}})
			wantLine(t, "a"+b+" x", session.Line{Verb: word{"a" + b, 0}, Args: []word{{"x", 3}}})
		case others.MatchString(b):
			wantNoLine(t, b, 0, api.ErrSyntax)
			wantLine(t, "a"+b+" x", session.Line{Verb: word{"a" + b, 0}, Args: []word{{"x", 3}}})
		case b == " " || b == "\t":
			wantLine(t, b, session.Line{})
			wantLine(t, "a"+b+"x", session.Line{Verb: word{"a", 0}, Args: []word{{"x", 2}}})
		case b == "#":
			wantLine(t, b, session.Line{})
			wantNoLine(t, "a"+b+"x", 1, api.ErrSyntax)
		case b == "=":
			wantNoLine(t, b, 0, api.ErrSyntax)
			wantLine(t, "a"+b+"x", session.Line{Name: word{"a", 0}, Verb: word{"x", 2}})
		default:
			wantNoLine(t, b, 0, api.ErrSyntax)
			wantNoLine(t, "a"+b+"x", 1, api.ErrSyntax)
		}
	}
}

func TestEmptyLines(t *testing.T) { // P23.1: nothing but blanks, or, behind them, a `#`
	for _, s := range []string{"", " ", "\t", " \t \t", "#", " #", "\t # f = 1", "##", "#\n\xff;=", "# let x;", times(" ", mostBytes), "#" + times("x", mostBytes-1)} {
		wantLine(t, s, session.Line{})
	}
	wantNoLine(t, "\n", 0, api.ErrSyntax)
	wantNoLine(t, " \n# x", 1, api.ErrSyntax)
	wantNoLine(t, "\u00a0", 0, api.ErrSyntax)
}

func TestRemarksStandAhead(t *testing.T) { // P23.1: elsewhere a `#` is a byte as others are
	wantLine(t, "let x # y", session.Line{Verb: word{"let", 0}, Args: []word{{"x # y", 4}}})
	wantLine(t, "let #", session.Line{Verb: word{"let", 0}, Args: []word{{"#", 4}}})
	wantNoLine(t, "a = # b", 4, api.ErrSyntax)
	wantNoLine(t, "a# b", 1, api.ErrSyntax)
}

func TestLongLines(t *testing.T) { // P23.1: ErrLimit at 0, ahead of all else
	long := "let " + times("x", mostBytes-4)
	wantLine(t, long, session.Line{Verb: word{"let", 0}, Args: []word{{long[4:], 4}}})
	for _, s := range []string{long + "x", long + " ", times(" ", mostBytes+1), "#" + times("#", mostBytes), times(";", mostBytes+1), times("\u00e9", mostBytes/2) + "x"} {
		wantNoLine(t, s, 0, api.ErrLimit)
	}
	wantNoLine(t, times(";", mostBytes), 0, api.ErrSyntax)
	wantNoLine(t, times(" ", mostBytes-1)+"=", mostBytes-1, api.ErrSyntax)
	wantNoLine(t, "a "+times("b;", mostBytes/2-1), mostBytes, api.ErrSyntax)
}

func TestNoLines(t *testing.T) { // P23.1: at the first byte with which it is none, or at the end
	for s, at := range map[string]int{
		"a =": 3, "a=": 2, "a = ": 4, "a = \t": 5, " =": 1, "= a": 0, "a = = b": 4, "a == b": 3, "a = 1": 4, "a = ;": 4,
		"let;f": 3, "let;": 3, "let-x": 3, "let(x": 3, "a=let;x": 5, "a = let\nx": 7, "a.": 1, "a\u00e9": 1,
		"let ;": 4, "let ;f": 4, "let \t;f": 5, "let f;": 6, "let f; ": 7, "let f;;f": 6, "let f; ;f": 7, "let f ;\t": 8, "let f;f;": 8, "a = let f; \t;g": 12,
	} {
		wantNoLine(t, s, at, api.ErrSyntax)
	}
}

func TestTheNameGoesAhead(t *testing.T) { // P23.1: what a `=` stands behind is a name, also where it were a verb and an argument
	wantLine(t, "let = x", session.Line{Name: word{"let", 0}, Verb: word{"x", 6}})
	wantLine(t, "let =x y", session.Line{Name: word{"let", 0}, Verb: word{"x", 5}, Args: []word{{"y", 7}}})
	wantLine(t, "let x = y", session.Line{Verb: word{"let", 0}, Args: []word{{"x = y", 4}}})
	wantLine(t, "f = let = y", session.Line{Name: word{"f", 0}, Verb: word{"let", 4}, Args: []word{{"= y", 8}}})
}

func TestArgumentsAreAnyBytes(t *testing.T) { // P23.1: but a `;`; the blanks at their ends are none of theirs
	for _, arg := range []string{"x", "x  y", "x\ty", "=", "#", "\n", "\nx\n", "\x00", "\xff\xc3", "\u00a0", "x = y # z", "\u00e9"} {
		for _, blanks := range []string{"", " ", "\t", "  ", " \t "} {
			at := 4 + len(blanks)
			l := session.Line{Name: word{"f", 0}, Verb: word{"a", 2}, Args: []word{{arg, at}}}
			wantLine(t, "f=a "+blanks+arg+blanks, l)
			l.Args = append(l.Args, word{arg, at + len(arg) + 2*len(blanks) + 1})
			wantLine(t, "f=a "+blanks+arg+blanks+";"+blanks+arg, l)
		}
	}
}

// Patterns of lines: an argument that is the first one begins with no `=`, unless there is a name.
var (
	emptyLine = regexp.MustCompile(`^[ \t]*(?:#|$)`)
	namedLine = regexp.MustCompile(`^[ \t]*([A-Za-z]\w*)[ \t]*=[ \t]*([A-Za-z]\w*)(?:[ \t]*|[ \t]+([^ \t](?s:.*)))$`)
	otherLine = regexp.MustCompile(`^[ \t]*()([A-Za-z]\w*)(?:[ \t]*|[ \t]+([^ \t=](?s:.*)))$`)
	argument  = regexp.MustCompile(`^[ \t]*([^; \t](?:[^;]*[^; \t])?)[ \t]*(;|$)`)
)

// plainSplit is a line's parts by patterns.
func plainSplit(s string) (session.Line, bool) {
	if emptyLine.MatchString(s) {
		return session.Line{}, true
	}
	parts := namedLine.FindStringSubmatchIndex(s)
	if parts == nil {
		parts = otherLine.FindStringSubmatchIndex(s)
	}
	if parts == nil {
		return session.Line{}, false
	}
	l := session.Line{Verb: word{s[parts[4]:parts[5]], parts[4]}}
	if parts[2] < parts[3] {
		l.Name = word{s[parts[2]:parts[3]], parts[2]}
	}
	for at := parts[6]; at >= 0; {
		arg := argument.FindStringSubmatchIndex(s[at:])
		if arg == nil {
			return session.Line{}, false
		}
		l.Args = append(l.Args, word{s[at+arg[2] : at+arg[3]], at + arg[2]})
		if arg[4] == arg[5] {
			break
		}
		at += arg[5]
	}
	return l, true
}

// plainPlace is the first byte with which a text that is no line is none, however it goes on.
func plainPlace(s string) int {
	for i := range len(s) {
		_, is := plainSplit(s[:i+1])
		if _, goesOn := plainSplit(s[:i+1] + "x"); !is && !goesOn {
			return i
		}
	}
	return len(s)
}

func wantPlain(t *testing.T, s string) {
	t.Helper()
	if l, is := plainSplit(s); is {
		wantLine(t, s, l)
		return
	}
	wantNoLine(t, s, plainPlace(s), api.ErrSyntax)
}

func TestAllShortLines(t *testing.T) { // P23.1: each of up to 5 bytes, out of 8
	last := []string{""}
	for range 5 {
		var longer []string
		for _, s := range last {
			wantPlain(t, s)
			for _, c := range []string{"a", "1", " ", "=", ";", "#", "\n", "\xc3"} {
				longer = append(longer, s+c)
			}
		}
		last = longer
	}
	for i := 0; i < len(last); i += 7 {
		wantPlain(t, last[i])
	}
}

func TestAnyLines(t *testing.T) { // P23.1
	s := source(1)
	for range 3000 {
		text := ""
		for range s.below(14) {
			text += s.one("a", "f", "let", "x_1", "9", " ", " ", " ", "\t", "=", ";", ";", "#", "-", "(", "\u00e9")
		}
		wantPlain(t, text)
	}
}
