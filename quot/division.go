package quot

import (
	"vinculum/api"
	"vinculum/bigint"
	"vinculum/mpoly"
)

const (
	mostWork   = 4000000             // of all steps of a division
	manyBits   = 1 << 26             // of a quotient's numbers
	otherPrime = 9223372036854775783 // the greatest one that a ring may have
)

// divisor is a polynomial, not 0, that one divides by.
type divisor struct {
	ring  api.Ring
	terms []mpoly.Term
	first first
	high  []int // its greatest exponent of each variable
}

func divisorOf(b mpoly.Poly) divisor {
	r, terms := b.Ring(), b.Terms()
	high := make([]int, len(r.Vars))
	for v := range high {
		high[v] = b.In(v)
	}
	return divisor{r, terms, firstOf(r, terms[0]), high}
}

// divided is the quotient of terms that fall, and what is left of them; both fall.
func (b divisor) divided(a []mpoly.Term) (q, r []mpoly.Term, err api.Errno) {
	d := division{by: b, of: a, left: restOf(b.ring)}
	one := mpoly.Term{E: make([]int, len(b.ring.Vars)), C: bigint.Of(1)}
	d.left.put(&row{by: one, list: a})
	if err := d.run(); err != api.OK {
		return nil, nil, err
	}
	return d.q, d.r, api.OK
}

// tooHigh tells whether a term, times b, has an exponent that is too great.
func (b divisor) tooHigh(e []int) bool {
	for v, x := range e {
		if x+b.high[v] > api.MaxExp {
			return true
		}
	}
	return false
}

// division is one of terms by a divisor, as far as it has come.
type division struct {
	by   divisor
	of   []mpoly.Term
	left *rest
	q, r []mpoly.Term
	work int
	bits int // of q's numbers
}

// run takes step by step, until nothing is left, or one has an error.
func (d *division) run() api.Errno {
	err := api.OK
steps:
	for err == api.OK {
		t, is := d.left.pop()
		switch {
		case !is:
			break steps
		case t.C.Sign() != 0:
			err = d.step(t)
		}
	}
	return err
}

// step takes the first term of what is left into q, or into r.
//
// There is no limit of steps to be seen to: each of them makes a term, and q or r has too
// many of these long ahead of it.
func (d *division) step(t mpoly.Term) api.Errno {
	d.work += len(d.by.terms)
	if d.work > mostWork {
		return api.ErrLimit
	}
	if x, goes := d.by.first.into(t); goes {
		return d.takeOff(x)
	}
	d.r = append(d.r, t)
	return limit(d.r)
}

// limit is the error of too many terms.
func limit(l []mpoly.Term) api.Errno {
	if len(l) > api.MaxTerms {
		return api.ErrLimit
	}
	return api.OK
}

// takeOff takes a term of the quotient, times the divisor, off what is left. The first
// one of these products is off already: it was popped.
func (d *division) takeOff(t mpoly.Term) api.Errno {
	if d.by.tooHigh(t.E) {
		return api.ErrLimit
	}
	d.q = append(d.q, t)
	d.left.put(&row{by: mpoly.Term{E: t.E, C: t.C.Neg()}, list: d.by.terms[1:]})
	if err := limit(d.q); err != api.OK {
		return err
	}
	return d.weigh(t.C)
}

// weigh counts the bits of the quotient's numbers. Where these grow from step to step, all
// memory may be gone ahead of a limit: so when there are many for the first time, it is
// asked whether there is one to come.
func (d *division) weigh(c bigint.Int) api.Errno {
	before := d.bits
	d.bits += c.Bits()
	if before > manyBits || d.bits <= manyBits {
		return api.OK
	}
	return d.foretold()
}

// foretold is the error of the same division modulo a prime, where no number grows. If all
// numbers go up by the first one, the exponents alone tell what is a term of q and what of
// r: so what has a term there has one here too, and a limit there is one here.
func (d *division) foretold() api.Errno {
	r := d.by.ring
	if r.P != 0 || !d.by.first.isUnit() {
		return api.OK
	}
	r.P = otherPrime
	_, _, err := divisorOf(made(r, d.by.terms)).divided(made(r, d.of).Terms())
	return err
}
