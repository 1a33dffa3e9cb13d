package session_test

import (
	"runtime"
	"slices"
	"strconv"
	"strings"
	"sync"
	"testing"

	"vinculum/api"
	"vinculum/lang"
	"vinculum/session"
)

// anyBytes are up to so many bytes of any kind.
func (s *source) anyBytes(most int) string {
	b := make([]byte, s.below(most+1))
	for i := range b {
		b[i] = byte(s.word())
	}
	return string(b)
}

func TestAnyBytesHaveAnAnswer(t *testing.T) { // R1: a line, or an error at a place from 0 to its length
	s := source(31)
	x := usual(t)
	for range 20000 {
		line := s.one("", "let ", "f = let ", "add f; ", "drop ", "ring ", "ring 0; lex; ", "points ", "eval f; ", "find 1 1; ") + s.anyBytes(12)
		l, at, err := session.Split(line)
		if at < 0 || at > len(line) || err == api.OK && at != 0 || err != api.OK && !sameLine(l, session.Line{}) {
			t.Errorf("Split of %q: got %v at %d, error %d", line, l, at, int(err))
		}
		answer, place, wrong := x.Do(line)
		if place < 0 || place > len(line) || wrong == api.OK && place != 0 || wrong != api.OK && answer != "" {
			t.Errorf("Do of %q: got %q at %d, error %d", line, answer, place, int(wrong))
		}
		if err != api.OK && (wrong != err || place != at) {
			t.Errorf("Do of %q: error %d at %d, that of Split is %d at %d", line, int(wrong), place, int(err), at)
		}
	}
}

func TestPartsAreTheCallers(t *testing.T) { // R2
	text := "f = add x ; y"
	l, _, _ := session.Split(text)
	before := slices.Clone(l.Args)
	list := l.Args[:cap(l.Args)]
	for i := range list {
		list[i] = session.Word{Text: "other", At: -1}
	}
	if again, _, _ := session.Split(text); !slices.Equal(again.Args, before) {
		t.Error("Split answers something else, after its answer was written into")
	}
}

func TestAnswersAreTheCallers(t *testing.T) { // R2: neither the ring, nor names, nor polynomials
	s := usual(t)
	before := looks(s)
	for range 2 {
		r := s.Ring()
		for i := range r.Vars[:cap(r.Vars)] {
			r.Vars[:cap(r.Vars)][i] = "other"
		}
		l := s.Names()
		for i := range l[:cap(l)] {
			l[:cap(l)][i] = "other"
		}
		a, _ := s.Get("f")
		a.Ring().Vars[0] = "other"
		for _, term := range a.Terms() {
			clear(term.E)
		}
		if after := looks(s); after != before {
			t.Errorf("the session shows %s, after its answers were written into, and before %s", after, before)
		}
	}
	want(t, s, "add f; x*y", "x^2 + 3*x*y + y^2")
	want(t, s, "drop f", "")
	if got := s.Names(); !slices.Equal(got, []string{"g"}) {
		t.Errorf("the names are %v", got)
	}
}

func TestAnswersStayAsTheyAre(t *testing.T) { // R2: whatever is done then
	s := usual(t)
	r, l := s.Ring(), s.Names()
	a, _ := s.Get("f")
	for _, line := range []string{"f = let 1", "h = let 2", "drop g", "ring 7; grevlex; a b c", "x = let a", "y = let b", "f = let c"} {
		answerOf(t, s, line)
	}
	if ringText(r) != "0 1 [x y]" || !slices.Equal(l, []string{"f", "g"}) || lang.Print(a) != "x^2 + 2*x*y + y^2" {
		t.Errorf("what was answered is %v, %v, %s", r, l, lang.Print(a))
	}
}

// held is how many bytes are in use.
func held() int {
	runtime.GC()
	runtime.GC()
	var m runtime.MemStats
	runtime.ReadMemStats(&m)
	return int(m.HeapAlloc)
}

func TestLinesAreNotKept(t *testing.T) { // R2: neither for a ring's names, nor for those of polynomials
	var sessions []*session.Session
	long := func(line string) string { return line + times(" ", mostBytes-len(line)) }
	before := held()
	for i := range 20 {
		s := started(t, long("ring 0; lex; x y"))
		for k := range 20 {
			answerOf(t, s, long("name_"+strconv.Itoa(k)+" = let "+strconv.Itoa(i)+"*x"))
		}
		sessions = append(sessions, s)
	}
	if more := held() - before; more > 1000000 {
		t.Errorf("%d sessions with %d names each hold %d bytes", len(sessions), len(sessions[0].Names()), more)
	}
	sessions = nil
	before = held()
	for range 200 {
		sessions = append(sessions, started(t, long("ring 0; lex; x y")))
	}
	if more := held() - before; more > 500000 {
		t.Errorf("%d sessions with the ring %v hold %d bytes", len(sessions), sessions[0].Ring(), more)
	}
}

// play is lines that have answers and errors of all kinds.
func play() []string {
	return []string{
		"let 1", "ring 0; lex; x y", "f = let (x+y)^2", "g = let x^2 - y^2", "gcd f; g", primes, points, "gcd f; g",
		"h = by crt; f; g", "by kron; f; g", "let h", "names", "drop g", "names", "drop g", "div f; x + y", "quo f; g", "rem f; h",
		"eval f; 1 -3", "let (", "x = let 1", "ring 4; lex", "let h", "ring 97; grevlex; a b", "names", "f = let 3*a + b", "ask f; 4",
		"find 4 9 21 51; 1 2 3 4", "find 1 2 3; 1", "z = let a*b", "k = let b", "c = let 1", "names", "times f; a", "prim f", "# none", "",
	}
}

// played is what is answered line by line, and what the session shows then.
func played(lines []string) string {
	s := session.New()
	var b strings.Builder
	for _, line := range lines {
		answer, at, err := s.Do(line)
		b.WriteString(answer + "|" + string(rune('0'+at)) + string(rune('0'+int(err))) + "\n")
	}
	return b.String() + looks(s)
}

func TestAnswersHangOnTheLinesAhead(t *testing.T) { // R3: again and again the same
	want := played(play())
	if !strings.Contains(want, "x + y|00\n") || !strings.Contains(want, "c f k z|00\n") {
		t.Errorf("played: %q", want)
	}
	for range 20 {
		if got := played(play()); got != want {
			t.Fatalf("played again: %q, and before %q", got, want)
		}
	}
}

func TestSessionsBesideOthers(t *testing.T) { // R3
	want := played(play())
	var group sync.WaitGroup
	for range 8 {
		group.Go(func() {
			if got := played(play()); got != want {
				t.Errorf("played beside others: %q, want %q", got, want)
			}
		})
	}
	group.Wait()
}

func TestWhatIsShownChangesNothing(t *testing.T) { // R3: nor do lines that answer alone
	s, bare := usual(t), usual(t)
	for _, line := range []string{"h = add f; g", "names", "f = mul h; h", "drop g", "let f", "len f"} {
		s.Ring()
		s.Names()
		s.Get("f")
		for _, other := range []string{"names", "let f", "deg f", "eval f; 1 1", "mul f; f", "no", "", "let q"} {
			s.Do(other)
		}
		want(t, s, line, answerOf(t, bare, line))
	}
	if looks(s) != looks(bare) {
		t.Errorf("%s and %s", looks(s), looks(bare))
	}
}
