package lang_test

import (
	"slices"
	"strings"
	"sync"
	"testing"

	"vinculum/api"
	"vinculum/lang"
	"vinculum/mpoly"
)

// answer is what a call answers.
type answer struct {
	tokens []lang.Token
	poly   mpoly.Poly
	text   string
	at     int
	err    api.Errno
}

func (a answer) matches(b answer) bool {
	return slices.Equal(a.tokens, b.tokens) && a.poly.Is(b.poly) && a.text == b.text && a.at == b.at && a.err == b.err
}

// gift is what the calls are handed.
type gift struct {
	r api.Ring
	s string
	a mpoly.Poly
}

type call func(g gift) answer

func calls() map[string]call {
	return map[string]call{
		"Tokens": func(g gift) answer {
			l, at, err := lang.Tokens(g.s)
			return answer{tokens: l, at: at, err: err}
		},
		"Parse": func(g gift) answer {
			a, at, err := lang.Parse(g.r, g.s)
			return answer{poly: a, at: at, err: err}
		},
		"Print": func(g gift) answer { return answer{text: lang.Print(g.a)} },
		"Read": func(g gift) answer {
			a, err := lang.Read(g.r, g.s)
			return answer{poly: a, err: err}
		},
	}
}

// gifts are such as calls take, and such as they do not.
func gifts(t *testing.T) []gift {
	t.Helper()
	s := source(31)
	all := []api.Ring{{}, ring(0, 4, 2), ring(9, 1, 2), {Vars: []string{"x", "x"}, Order: 1}, {Vars: make([]string, 9), Order: 1}, {P: 1<<64 - 1, Vars: []string{"\xff", "x"}, Order: 3}, ring(0, 1, 0), ring(0, 1, 2), ring(0, 3, 8), ring(7, 2, 2), ring(greatest, 2, 3)}
	texts := []string{"", "0", "x", "x + y", "-x^2 + 3\u00b7x*y \u2212 1", "x^^2", "x + q", "(x", "x^1048577", "x^1048576*x*y", "(x+y)^1001", "007", "\xff", "x\xe2\x88", "\x00", "2^1048576", times("(", 65), times("-", 1000) + "x", times("(", 50000), times(")", 50000), times("x*", 2000) + "x", times("1", 20001), times(" ", 100001), times("x+", 3000), "(x+1)^20*(y-1)^20 - 7*x*y"}
	var gifts []gift
	for _, r := range all {
		for _, text := range append(texts, s.anyText(12), s.anyText(12), s.likely(r.Vars, 9), s.likely(r.Vars, 9)) {
			a, _ := mpoly.Make(r, s.terms(s.below(5), len(r.Vars), 4))
			gifts = append(gifts, gift{r, text, a})
		}
	}
	return gifts
}

func eachCall(t *testing.T, do func(name string, call call, g gift)) {
	t.Helper()
	all := gifts(t)
	for name, call := range calls() {
		for _, g := range all {
			do(name, call, g)
		}
	}
}

func TestErrorsStandAlone(t *testing.T) { // R1
	eachCall(t, func(name string, call call, g gift) {
		got := call(g)
		if got.err != api.OK && !got.matches(answer{at: got.at, err: got.err}) {
			t.Errorf("%s over %v of %q: got something beside the error %d", name, g.r, short(g.s), int(got.err))
		}
		if got.err == api.OK && got.at != 0 || got.at < 0 || got.at > len(g.s) {
			t.Errorf("%s over %v of %q: the place %d, error %d", name, g.r, short(g.s), got.at, int(got.err))
		}
	})
}

func TestNothingIsWrittenInto(t *testing.T) { // R2: nor what stands behind a list's length
	eachCall(t, func(name string, call call, g gift) {
		handed := g
		handed.r.Vars = append(slices.Clone(g.r.Vars), "more", "_")[:len(g.r.Vars)]
		vars, terms := slices.Clone(handed.r.Vars[:len(g.r.Vars)+2]), g.a.Terms()
		got := call(handed)
		if !slices.Equal(handed.r.Vars[:len(vars)], vars) || handed.r.P != g.r.P || handed.r.Order != g.r.Order {
			t.Errorf("%s over %v of %q: writes into the ring", name, g.r, short(g.s))
		}
		if same := func(x, y mpoly.Term) bool { return slices.Equal(x.E, y.E) && x.C.Cmp(y.C) == 0 }; !slices.EqualFunc(g.a.Terms(), terms, same) {
			t.Errorf("%s over %v: writes into a polynomial", name, g.r)
		}
		if !got.matches(call(g)) {
			t.Errorf("%s over %v of %q: got something else of the same", name, g.r, short(g.s))
		}
	})
}

func TestWhatIsHandedInIsNotKept(t *testing.T) { // R2
	for _, s := range []string{"x + y^2", "0", "x - x", "x", "-y", "3", "x*y", "(x + 1)^3", "x^5"} {
		handed := ring(0, api.GrLex, 2)
		a, _, err := lang.Parse(handed, s)
		b, _ := lang.Read(handed, s)
		want, _, _ := lang.Parse(ring(0, api.GrLex, 2), s)
		text := lang.Print(want)
		for i := range handed.Vars {
			handed.Vars[i] = "other"
		}
		if !a.Is(want) || lang.Print(a) != text || err != api.OK {
			t.Errorf("Parse of %q, whose names were written into: got %q", s, lang.Print(a))
		}
		if b.Len() > 0 && !b.Is(want) {
			t.Errorf("Read of %q, whose names were written into: got %q", s, lang.Print(b))
		}
	}
}

func TestAnswersAreTheCallers(t *testing.T) { // R2
	text := "(x + 12)*y - 3^2"
	l, _, _ := lang.Tokens(text)
	want := slices.Clone(l)
	l = l[:cap(l)]
	for i := range l {
		l[i] = lang.Token{Kind: 9, Text: "other", At: -1}
	}
	if again, _, _ := lang.Tokens(text); !slices.Equal(again, want) {
		t.Error("Tokens answers something else, after its answer was written into")
	}
	a, _, _ := lang.Parse(overZ(), text)
	printed := lang.Print(a)
	for _, x := range a.Terms() {
		clear(x.E)
	}
	a.Ring().Vars[0] = "other"
	if b, _, _ := lang.Parse(overZ(), text); lang.Print(a) != printed || lang.Print(b) != printed {
		t.Error("Parse answers something else, after its answer was written into")
	}
}

func TestPartsOfOneTextAreApart(t *testing.T) { // R2: the same variable, again and again
	a, _, _ := lang.Parse(overZ(), "x")
	b, _, _ := lang.Parse(overZ(), "x*x + x - x")
	clear(a.Terms()[0].E)
	if lang.Print(a) != "x" || lang.Print(b) != "x^2" {
		t.Error(lang.Print(a), lang.Print(b))
	}
}

func TestAnswersHangOnArgumentsAlone(t *testing.T) { // R3: again and again the same, whatever came ahead
	all := gifts(t)
	for name, call := range calls() {
		want := make([]answer, len(all))
		for i, g := range all {
			want[i] = call(g)
		}
		for i, g := range slices.Backward(all) {
			g.s = strings.Clone(g.s)
			if got := call(g); !got.matches(want[i]) {
				t.Errorf("%s over %v of %q: got something else", name, g.r, short(g.s))
			}
		}
	}
}

func TestCallsBesideOthers(t *testing.T) { // R3
	g := gift{ring(7, api.GrevLex, 3), "(x + 2*y)^5*(z - 1)^3 - x*y*z", mpoly.Poly{}}
	g.a, _, _ = lang.Parse(g.r, g.s)
	want := map[string]answer{}
	for name, call := range calls() {
		want[name] = call(g)
	}
	var group sync.WaitGroup
	for range 8 {
		group.Go(func() {
			for name, call := range calls() {
				if !call(g).matches(want[name]) {
					t.Errorf("%s beside others answers something else", name)
				}
			}
		})
	}
	group.Wait()
}
