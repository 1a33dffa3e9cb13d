package session_test

import (
	"fmt"
	"maps"
	"math/big"
	"regexp"
	"slices"
	"strings"
	"testing"

	"vinculum/api"
	"vinculum/bigint"
	"vinculum/brown"
	"vinculum/calc"
	"vinculum/lang"
	"vinculum/mpoly"
	"vinculum/multi"
	"vinculum/quot"
	"vinculum/session"
	"vinculum/sparse"
)

// plain is a session of which each line is worked out anew, argument by argument.
type plain struct {
	ring    api.Ring
	choices brown.Choices
	polys   map[string]mpoly.Poly
}

// stop is a place and an error, by which a line is left.
type stop struct {
	at  int
	err api.Errno
}

func fail(at int, err api.Errno) {
	if err != api.OK {
		panic(stop{at, err})
	}
}

// do is a line's answer.
func (p *plain) do(line string) (answer string, at int, err api.Errno) {
	defer func() {
		if x, is := recover().(stop); is {
			answer, at, err = "", x.at, x.err
		}
	}()
	if len(line) > mostBytes {
		fail(0, api.ErrLimit)
	}
	l, is := plainSplit(line)
	if !is {
		fail(plainPlace(line), api.ErrSyntax)
	}
	if l.Verb.Text == "" {
		return "", 0, api.OK
	}
	p.check(l, len(line))
	poly, text := p.work(l)
	if poly == nil {
		return text, 0, api.OK
	}
	if l.Name.Text != "" {
		p.polys[l.Name.Text] = *poly
	}
	return lang.Print(*poly), 0, api.OK
}

var (
	nameOf    = regexp.MustCompile(`^[a-zA-Z][a-zA-Z0-9_]{0,31}$`)
	wholeOf   = regexp.MustCompile(`^(0|-?[1-9][0-9]*)$`)
	naturalOf = regexp.MustCompile(`^(0|[1-9][0-9]*)$`)
	pieceOf   = regexp.MustCompile(`[^ \t]+`)
)

// check is what goes ahead of the arguments.
func (p *plain) check(l session.Line, end int) {
	all := samples()
	i := slices.IndexFunc(all, func(v sample) bool { return v.verb == l.Verb.Text })
	if i < 0 {
		fail(l.Verb.At, api.ErrName)
	}
	v := all[i]
	if len(l.Args) < v.fewest {
		fail(end, api.ErrSyntax)
	}
	if len(l.Args) > len(v.args) {
		fail(l.Args[len(v.args)].At, api.ErrSyntax)
	}
	if name := l.Name; name.Text != "" {
		_, old := p.polys[name.Text]
		switch {
		case !v.poly:
			fail(name.At, api.ErrSyntax)
		case !nameOf.MatchString(name.Text), slices.Contains(p.ring.Vars, name.Text):
			fail(name.At, api.ErrName)
		case !old && len(p.polys) == mostNames:
			fail(name.At, api.ErrLimit)
		}
	}
	if p.ring.Order == 0 && !v.bare {
		fail(l.Verb.At, api.ErrRing)
	}
}

func (p *plain) poly(w word) mpoly.Poly {
	if a, is := p.polys[w.Text]; is {
		return a
	}
	a, at, err := lang.Parse(p.ring, w.Text)
	fail(w.At+at, err)
	return a
}

func (p *plain) count(w word) int {
	if !naturalOf.MatchString(w.Text) {
		fail(w.At, api.ErrSyntax)
	}
	n, _ := new(big.Int).SetString(w.Text, 10)
	if n.Cmp(big.NewInt(mostCount)) > 0 {
		fail(w.At, api.ErrLimit)
	}
	return int(n.Int64())
}

func oneOf(w word, l ...string) int {
	i := slices.Index(l, w.Text)
	if i < 0 {
		fail(w.At, api.ErrName)
	}
	return i
}

// list is that of an argument, which may be missing.
func list(args []word) []uint64 {
	var l []uint64
	for _, w := range args {
		for _, at := range pieceOf.FindAllStringIndex(w.Text, -1) {
			piece := w.Text[at[0]:at[1]]
			if !naturalOf.MatchString(piece) {
				fail(w.At+at[0], api.ErrSyntax)
			}
			n, _ := new(big.Int).SetString(piece, 10)
			if !n.IsUint64() {
				fail(w.At+at[0], api.ErrLimit)
			}
			l = append(l, n.Uint64())
		}
	}
	return l
}

func whole(args []word) []bigint.Int {
	var l []bigint.Int
	for _, w := range args {
		for _, at := range pieceOf.FindAllStringIndex(w.Text, -1) {
			piece := w.Text[at[0]:at[1]]
			if !wholeOf.MatchString(piece) {
				fail(w.At+at[0], api.ErrSyntax)
			}
			n, _ := bigint.Parse(piece)
			l = append(l, n)
		}
	}
	return l
}

// work is the polynomial, or the text, that is answered.
func (p *plain) work(l session.Line) (*mpoly.Poly, string) {
	at, args := l.Verb.At, l.Args
	switch l.Verb.Text {
	case "ring":
		n := list(args[:1])
		if len(n) != 1 {
			fail(args[0].At, api.ErrSyntax)
		}
		r := api.Ring{P: n[0], Order: 1 + oneOf(args[1], "lex", "grlex", "grevlex")}
		if len(args) > 2 {
			r.Vars = pieceOf.FindAllString(args[2].Text, -1)
		}
		fail(at, mpoly.Check(r))
		p.ring, p.polys = r, map[string]mpoly.Poly{}
		return nil, ""
	case "primes":
		p.choices.Primes = list(args)
		return nil, ""
	case "points":
		p.choices.Points = list(args)
		return nil, ""
	case "names":
		return nil, strings.Join(slices.Sorted(maps.Keys(p.polys)), " ")
	case "drop":
		if _, is := p.polys[args[0].Text]; !is {
			fail(args[0].At, api.ErrNone)
		}
		delete(p.polys, args[0].Text)
		return nil, ""
	case "by":
		way := oneOf(args[0], "auto", "heap", "kron", "box", "crt")
		a, b := p.poly(args[1]), p.poly(args[2])
		x, err := multi.Mul(a, b, way, 1<<63)
		fail(at, err)
		return &x, ""
	case "find":
		values, seeds := list(args[:1]), list(args[1:])
		x, err := sparse.Find(p.ring, values, seeds)
		fail(at, err)
		return &x, ""
	default:
		return p.of(l, p.poly(args[0]))
	}
}

// of is work on a polynomial that is the first argument.
func (p *plain) of(l session.Line, a mpoly.Poly) (*mpoly.Poly, string) {
	at, args := l.Verb.At, l.Args
	switch l.Verb.Text {
	case "let":
		return &a, ""
	case "prim":
		x := calc.Primitive(a)
		return &x, ""
	case "cont":
		return nil, calc.Content(a).Print()
	case "deg":
		return nil, fmt.Sprint(a.Deg())
	case "len":
		return nil, fmt.Sprint(a.Len())
	case "eval":
		n, err := calc.Eval(a, whole(args[1:]))
		fail(at, err)
		return nil, n.Print()
	case "pow":
		x, err := multi.Pow(a, p.count(args[1]), multi.Auto, 1<<63)
		fail(at, err)
		return &x, ""
	case "ask":
		n, err := sparse.Ask(a, p.count(args[1]))
		fail(at, err)
		return nil, strings.Trim(fmt.Sprint(n), "[]")
	case "diff":
		x, err := calc.Derive(a, oneOf(args[1], p.ring.Vars...))
		fail(at, err)
		return &x, ""
	case "subst":
		v := oneOf(args[1], p.ring.Vars...)
		x, err := calc.Subst(a, v, p.poly(args[2]))
		fail(at, err)
		return &x, ""
	default:
		return p.ofBoth(l, a, p.poly(args[1]))
	}
}

// ofBoth is work on two polynomials that are all arguments.
func (p *plain) ofBoth(l session.Line, a, b mpoly.Poly) (*mpoly.Poly, string) {
	var x mpoly.Poly
	var err api.Errno
	switch l.Verb.Text {
	case "add":
		x, err = a.Add(b)
	case "sub":
		x, err = a.Sub(b)
	case "mul":
		x, err = multi.Mul(a, b, multi.Auto, 1<<63)
	case "div":
		x, err = quot.Div(a, b)
	case "quo":
		x, _, err = quot.DivMod(a, b)
	case "rem":
		_, x, err = quot.DivMod(a, b)
	case "gcd":
		x, err = brown.Gcd(a, b, p.choices)
	case "times":
		n, _, err := quot.Times(a, b)
		fail(l.Verb.At, err)
		return nil, fmt.Sprint(n)
	}
	fail(l.Verb.At, err)
	return &x, ""
}

// anyArg is an argument that is likely at its place, or not.
func (s *source) anyArg(kind string) string {
	if s.below(25) == 0 {
		return s.one("", "(", "q", "x^^2", "-1", "1 2", "\n", "f + 1", "18446744073709551616", "1048577", "x", "lex", "=", "#")
	}
	switch kind {
	case "ring":
		return s.one("0", "0", "0", "7", "2", "9223372036854775783", "4")
	case "order":
		return s.one("lex", "grlex", "grevlex")
	case "vars":
		return s.one("x", "x y", "x y", "y x", "x y z", "x x")
	case "way":
		return s.one("auto", "heap", "kron", "box", "crt")
	case "var":
		return s.one("x", "y", "z", "x", "y")
	case "count":
		return s.one("0", "1", "2", "3", "4", "7", "1001")
	case "list":
		return s.one("1", "1 2", "0 0", "4 9 21 51", "1 2 3 4 5 6 7", "3 5 7", strings.TrimPrefix(primes, "primes "), strings.TrimPrefix(points, "points "), "1\t2  -3")
	case "numbers":
		return s.one("1 2", "-1 3", "0 0", "5", "1 2 3", "-100000000000000000000 1", "1 x")
	case "name":
		return s.one("f", "g", "h", "k", "m")
	default:
		return s.one("f", "g", "h", "k", "f", "g", "x", "y", "0", "1", "x + y", "(x+y)^2*(x-1)", "x^2 - y^2", "3*x*y - 5", "12", "z", "2*x^3 + y", s.text(4, 4))
	}
}

// kinds are those of a verb's arguments.
func kinds(verb string) []string {
	switch verb {
	case "ring":
		return []string{"ring", "order", "vars"}
	case "primes", "points":
		return []string{"list"}
	case "names":
		return nil
	case "drop":
		return []string{"name"}
	case "by":
		return []string{"way", "poly", "poly"}
	case "pow", "ask":
		return []string{"poly", "count"}
	case "diff":
		return []string{"poly", "var"}
	case "subst":
		return []string{"poly", "var", "poly"}
	case "find":
		return []string{"list", "list"}
	case "let", "prim", "cont", "deg", "len":
		return []string{"poly"}
	case "eval":
		return []string{"poly", "numbers"}
	default:
		return []string{"poly", "poly"}
	}
}

func (s *source) blanks() string { return s.one("", "", "", " ", "\t", "  ") }

// anyLine is one that is likely done.
func (s *source) anyLine() string {
	all := samples()
	v := all[s.below(len(all))]
	// A ring takes all names away.
	if v.verb == "ring" && s.below(4) > 0 {
		v = sample{verb: "let"}
	}
	var args []string
	for _, kind := range kinds(v.verb) {
		args = append(args, s.blanks()+s.anyArg(kind)+s.blanks())
	}
	switch s.below(30) {
	case 0:
		args = append(args, "x")
	case 1, 2:
		args = args[:max(0, len(args)-1)]
	}
	line := s.blanks() + v.verb + s.one(" ", " ", "\t") + strings.Join(args, ";")
	if s.below(3) > 0 && !slices.Contains([]string{"ring", "primes", "points", "names", "drop", "cont", "deg", "len", "eval", "times", "ask"}, v.verb) || s.below(40) == 0 {
		line = s.blanks() + s.one("f", "g", "h", "k", "F", "f", "g", "h", "k", "x", times("n", 33)) + s.blanks() + "=" + line
	}
	return line
}

func TestAnyPlay(t *testing.T) { // P23.1 to P23.3: line by line as worked out plainly
	s := source(41)
	done, wrong := 0, map[api.Errno]int{}
	for play := range 60 {
		x, p := session.New(), &plain{polys: map[string]mpoly.Poly{}}
		for i := range 80 {
			line := s.anyLine()
			if i == 0 && play%10 > 0 {
				line = starts()[play%5]
			}
			answer, at, err := x.Do(line)
			wantAnswer, wantAt, wantErr := p.do(line)
			if answer != wantAnswer || at != wantAt || err != wantErr {
				t.Fatalf("Do of %q: got %q at %d, error %d, want %q at %d, error %d", line, short(answer), at, int(err), short(wantAnswer), wantAt, int(wantErr))
			}
			if err == api.OK {
				done++
			}
			wrong[err]++
			p.wantSame(t, x, line)
		}
	}
	if done < 1500 || len(wrong) < 10 {
		t.Errorf("%d lines were done, others had the errors %v", done, wrong)
	}
}

// wantSame asks for a session that shows what the plain one has.
func (p *plain) wantSame(t *testing.T, x *session.Session, line string) {
	t.Helper()
	if ringText(x.Ring()) != ringText(p.ring) || !slices.Equal(x.Names(), slices.Sorted(maps.Keys(p.polys))) {
		t.Fatalf("behind %q: %v, %v, want %v, %d names", line, x.Ring(), x.Names(), p.ring, len(p.polys))
	}
	for name, want := range p.polys {
		if a, is := x.Get(name); !is || !a.Is(want) {
			t.Fatalf("behind %q: %s is %s, want %s", line, name, short(lang.Print(a)), short(lang.Print(want)))
		}
	}
}
