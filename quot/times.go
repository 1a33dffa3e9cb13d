package quot

import (
	"vinculum/api"
	"vinculum/mpoly"
)

// Times is how often b divides a, and what is left then.
func Times(a, b mpoly.Poly) (int, mpoly.Poly, api.Errno) {
	if err := check(a, b); err != api.OK {
		return 0, mpoly.Poly{}, err
	}
	by := divisorOf(b)
	// Neither 0 nor a number has a division at a limit, which would come ahead of this.
	if a.Len() == 0 || b.Deg() == 0 && by.first.isUnit() {
		return 0, mpoly.Poly{}, api.ErrArg
	}
	n, left, err := by.times(a.Terms())
	if err != api.OK {
		return 0, mpoly.Poly{}, err
	}
	return n, made(a.Ring(), left), api.OK
}

// times is how often b divides terms, and what is left of them then.
func (b divisor) times(a []mpoly.Term) (int, []mpoly.Term, api.Errno) {
	if len(b.terms) == 1 {
		n, left := b.first.often(a) // by one term no division comes to a limit
		return n, left, api.OK
	}
	for n := 0; ; n++ {
		q, r, err := b.divided(a)
		if err != api.OK {
			return 0, nil, err
		}
		if len(r) > 0 {
			return n, a, api.OK
		}
		a = q
	}
}
