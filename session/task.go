package session

import (
	"slices"
	"strings"

	"vinculum/api"
	"vinculum/bigint"
	"vinculum/lang"
	"vinculum/mpoly"
)

// task is a line that is done: its parts, and what its arguments come to.
type task struct {
	Line
	inputs
	in  *Session
	end int // the line's length
}

// inputs are what arguments come to, those of a kind in their order.
type inputs struct {
	polys   []mpoly.Poly
	lists   [][]uint64
	numbers []bigint.Int
	words   []string
	count   int
	choice  int // its place among all that there are
}

// done is what is answered. Nothing is changed ahead of the last error that there may be.
func (t *task) done() (string, error) {
	v, is := verbs()[t.Verb.Text]
	if !is {
		return "", fault{api.ErrName, t.Verb.At}
	}
	for _, step := range []func(verb) error{t.checkCount, t.checkName, t.checkRing, t.read} {
		if err := step(v); err != nil {
			return "", err
		}
	}
	if v.poly == nil {
		return t.told(v)
	}
	return t.made(v)
}

func (t *task) checkCount(v verb) error {
	switch many := len(t.Args); {
	case many < v.fewest():
		return fault{api.ErrSyntax, t.end}
	case many > len(v.kinds):
		return fault{api.ErrSyntax, t.Args[len(v.kinds)].At}
	}
	return nil
}

// checkName is what is wrong with the name, if there is one.
func (t *task) checkName(v verb) error {
	name, at := t.Name.Text, t.Name.At
	_, isOld := t.in.polys[name]
	switch {
	case name == "":
		return nil
	case v.poly == nil:
		return fault{api.ErrSyntax, at}
	case !isName(name) || slices.Contains(t.in.ring.Vars, name):
		return fault{api.ErrName, at}
	case !isOld && len(t.in.polys) >= mostNames:
		return fault{api.ErrLimit, at}
	}
	return nil
}

// isName tells whether a variable may have a name.
func isName(s string) bool {
	return mpoly.Check(api.Ring{Vars: []string{s}, Order: api.Lex}) == api.OK
}

// checkRing goes by the order, which no ring is without.
func (t *task) checkRing(v verb) error {
	if t.in.ring.Order == 0 && !v.bare {
		return fault{api.ErrRing, t.Verb.At}
	}
	return nil
}

// read takes the arguments, each one by its kind.
func (t *task) read(v verb) error {
	for i, w := range t.Args {
		if err := v.kinds[i](t, w); err != nil {
			return err
		}
	}
	return nil
}

// told is the answer of a verb that answers no polynomial.
func (t *task) told(v verb) (string, error) {
	text, no := v.text(t)
	if no != api.OK {
		return "", fault{no, t.Verb.At}
	}
	return text, nil
}

// made is the text of the polynomial that a verb answers, which has the name from then on.
func (t *task) made(v verb) (string, error) {
	a, no := v.poly(t)
	if no != api.OK {
		return "", fault{no, t.Verb.At}
	}
	if t.Name.Text != "" {
		// A name that is kept does not keep its line.
		t.in.polys[strings.Clone(t.Name.Text)] = a
	}
	return lang.Print(a), nil
}
