package session_test

import (
	"fmt"
	"strings"
	"testing"

	"vinculum/api"
	"vinculum/session"
)

// Limits of the document.
const (
	mostBytes = 10000
	mostNames = 100
	mostCount = 1048576
)

// source is numbers that look like any others, the same ones in every run.
type source uint64

func (s *source) word() uint64 {
	*s += 0x9e3779b97f4a7c15
	w := uint64(*s)
	w = (w ^ w>>30) * 0xbf58476d1ce4e5b9
	w = (w ^ w>>27) * 0x94d049bb133111eb
	return w ^ w>>31
}

// below is a number from 0 to n less 1.
func (s *source) below(n int) int { return int(s.word() % uint64(n)) }

// one is any of some texts.
func (s *source) one(l ...string) string { return l[s.below(len(l))] }

// started is a session in which lines were done, all without an error.
func started(t *testing.T, lines ...string) *session.Session {
	t.Helper()
	s := session.New()
	for _, line := range lines {
		if _, at, err := s.Do(line); err != api.OK {
			t.Fatalf("Do of %q: error %d at %d", short(line), int(err), at)
		}
	}
	return s
}

// usual is a session over the integers, with f = x^2 + 2*x*y + y^2 and g = x^2 - y^2.
func usual(t *testing.T) *session.Session {
	t.Helper()
	return started(t, "ring 0; lex; x y", "f = let (x+y)^2", "g = let x^2 - y^2")
}

// want asks for the answer of a line.
func want(t *testing.T, s *session.Session, line, answer string) {
	t.Helper()
	if got, at, err := s.Do(line); got != answer || at != 0 || err != api.OK {
		t.Errorf("Do of %q: got %q at %d, error %d, want %q", short(line), short(got), at, int(err), short(answer))
	}
}

// wantFault asks for an error, alone, and for nothing to be changed.
func wantFault(t *testing.T, s *session.Session, line string, place int, wrong api.Errno) {
	t.Helper()
	before := looks(s)
	if got, at, err := s.Do(line); got != "" || at != place || err != wrong {
		t.Errorf("Do of %q: got %q at %d, error %d, want error %d at %d", short(line), short(got), at, int(err), int(wrong), place)
	}
	if after := looks(s); after != before {
		t.Errorf("Do of %q, which has an error: %s, and before %s", short(line), short(after), short(before))
	}
}

// looks is what a session shows from without.
func looks(s *session.Session) string {
	var b strings.Builder
	r := s.Ring()
	b.WriteString(ringText(r))
	for _, name := range s.Names() {
		a, is := s.Get(name)
		text, _, _ := s.Do("let " + name)
		b.WriteString("|" + name + "=" + text)
		if !is || ringText(a.Ring()) != ringText(r) {
			b.WriteString("?")
		}
	}
	return b.String()
}

func ringText(r api.Ring) string {
	return fmt.Sprint(r.P, r.Order, r.Vars)
}

// short is a text that may be shown.
func short(s string) string {
	if len(s) > 100 {
		return s[:100] + ".."
	}
	return s
}

func times(s string, n int) string { return strings.Repeat(s, n) }
