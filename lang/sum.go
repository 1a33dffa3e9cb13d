package lang

import (
	"vinculum/api"
	"vinculum/mpoly"
)

func (v values) sum(x sum) (mpoly.Poly, fault) {
	a, wrong := v.value(x[0].tree)
	if wrong.err != api.OK {
		return mpoly.Poly{}, wrong
	}
	t := total{ring: v.ring, sum: a}
	for _, s := range x[1:] {
		b, wrong := v.value(s.tree)
		if wrong.err != api.OK {
			return mpoly.Poly{}, wrong
		}
		if s.sign.Text == "-" {
			b = b.Neg()
		}
		if err := t.add(b); err != api.OK {
			return mpoly.Poly{}, fault{s.sign.At, err}
		}
	}
	t.settle()
	return t.sum, fault{}
}

// total is a sum of many: terms are put together but once for as many of them as surely are
// not too many, as each mpoly.Add goes through all that are there.
type total struct {
	ring api.Ring
	sum  mpoly.Poly
	more []mpoly.Term // still to be added; no more of both than a polynomial may have
}

// add has Add's error, if the sum has too many terms.
func (t *total) add(a mpoly.Poly) api.Errno {
	if t.fits(a) {
		t.more = append(t.more, a.Terms()...)
		return api.OK
	}
	t.settle()
	var err api.Errno
	t.sum, err = t.sum.Add(a)
	return err
}

// fits tells whether there are not too many terms, also if none falls together with another one.
func (t *total) fits(a mpoly.Poly) bool {
	return t.sum.Len()+len(t.more)+a.Len() <= api.MaxTerms
}

// settle adds what is still to be added.
func (t *total) settle() {
	if len(t.more) > 0 {
		t.sum, _ = mpoly.Make(t.ring, append(t.sum.Terms(), t.more...))
		t.more = nil
	}
}
