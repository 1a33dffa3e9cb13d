package session_test

import (
	"fmt"
	"slices"
	"testing"

	"vinculum/api"
	"vinculum/lang"
	"vinculum/mpoly"
	"vinculum/session"
)

func TestWhatASessionShows(t *testing.T) { // P23.3
	s := started(t, "ring 7; grevlex; x y", "b = let x + 8*y", "a = let y^2", "C = let 0")
	wantRing(t, s, 7, api.GrevLex, "x", "y")
	if got := fmt.Sprint(s.Names()); got != "[C a b]" {
		t.Errorf("the names are %s", got)
	}
	for name, text := range map[string]string{"a": "y^2", "b": "x + y", "C": "0"} {
		a, is := s.Get(name)
		if !is || lang.Print(a) != text || !mpoly.Same(a.Ring(), s.Ring()) {
			t.Errorf("Get of %s: got %s, %t, of the ring %v", name, lang.Print(a), is, a.Ring())
		}
	}
}

func TestGetOfNoName(t *testing.T) { // P23.3: the zero Poly, and false
	s := started(t, "ring 7; grevlex; x y", "b = let x + 8*y", "old = let 1", "drop old")
	for _, name := range []string{"", "a", "B", "x", "old", " b", "b ", "b\n", "x + y", "1", "names", times("b", 20000)} {
		if a, is := s.Get(name); is || !a.Is(mpoly.Poly{}) {
			t.Errorf("Get of %q: %d terms, of the ring %v, %t", short(name), a.Len(), a.Ring(), is)
		}
	}
}

func TestNewSessions(t *testing.T) { // P23.2, P23.3: without a ring and names
	s := session.New()
	wantRing(t, s, 0, 0)
	if l := s.Names(); len(l) != 0 {
		t.Errorf("the names are %v", l)
	}
	if a, is := s.Get("f"); is || !a.Is(mpoly.Poly{}) {
		t.Errorf("Get: %t", is)
	}
	want(t, s, "names", "")
}

func TestNilSessionsShowNothing(t *testing.T) { // P23.3
	var s *session.Session
	wantRing(t, s, 0, 0)
	if l := s.Names(); len(l) != 0 {
		t.Errorf("the names are %v", l)
	}
	if a, is := s.Get(""); is || !a.Is(mpoly.Poly{}) {
		t.Errorf("Get: %t", is)
	}
}

func TestNamesRise(t *testing.T) { // P23.3: whichever order they came in
	s := source(4)
	for range 20 {
		x := started(t, "ring 3; lex; x")
		var l []string
		for range 50 {
			name := s.one("a", "b", "B", "z") + s.one("", "_", "0", "a", "Z") + s.one("", "1", "q")
			want(t, x, name+" = let x", "x")
			l = append(l, name)
		}
		slices.Sort(l)
		if got := x.Names(); !slices.Equal(got, slices.Compact(l)) {
			t.Errorf("the names are %v, want %v", got, slices.Compact(l))
		}
	}
}
