package heap

import (
	"slices"

	"vinculum/api"
	"vinculum/bigint"
	"vinculum/mpoly"
	"vinculum/term"
)

// row is a term, times each one of a list that falls: so these products fall too.
type row struct {
	by    mpoly.Term
	list  []mpoly.Term // what is still to be multiplied
	e     []int        // the exponents of the next product: they are asked for again and again
	place int          // among the rows
}

// products is rows, one for each term of the shorter list, by the other one.
func products(a, b []mpoly.Term) []*row {
	if len(a) > len(b) {
		a, b = b, a // a heap with fewer rows is a faster one
	}
	rows := make([]*row, len(a))
	for i, x := range a {
		rows[i] = &row{by: x, list: b}
	}
	return rows
}

// once is the rows of a list that is not multiplied.
func once(list []mpoly.Term, vars int) []*row {
	one := mpoly.Term{E: make([]int, vars), C: bigint.Of(1)}
	return products([]mpoly.Term{one}, list)
}

// order is one of a ring.
type order int

// ahead tells whether a row's next product stands ahead of another row's. Of two that have
// the same exponents one does too, as a heap is fast for such orders alone.
func (o order) ahead(x, y *row) bool {
	c, _ := term.Cmp(int(o), x.e, y.e)
	return c > 0 || c == 0 && x.place < y.place
}

// put pushes a row, if there is a next product.
func put(h *Heap[*row], x *row) {
	if len(x.list) == 0 {
		return
	}
	x.e, _ = term.Mul(x.by.E, x.list[0].E) // none is too great: check has told so
	h.Push(x)
}

// summed is the terms of a ring that rows come to, falling, if there are not too many.
func summed(r api.Ring, rows []*row) ([]mpoly.Term, api.Errno) {
	h := New(order(r.Order).ahead)
	for i, x := range rows {
		x.place = i
		put(h, x)
	}
	s := sum{p: r.P}
	for x, is := h.Pop(); is; x, is = h.Pop() {
		if err := s.add(x.e, x.by.C.Mul(x.list[0].C)); err != api.OK {
			return nil, err
		}
		x.list = x.list[1:]
		put(h, x)
	}
	err := s.close()
	return s.terms, err
}

// sum is terms that come falling, the same exponents as often as you like. Over a field
// numbers are taken modulo P but once, when all of a term are there.
type sum struct {
	p     uint64
	terms []mpoly.Term // none of them is 0, but that the last one may be
}

// add takes a term; ErrLimit, if those ahead of it are too many.
func (s *sum) add(e []int, c bigint.Int) api.Errno {
	last := len(s.terms) - 1
	if last >= 0 && slices.Equal(s.terms[last].E, e) {
		s.terms[last].C = s.terms[last].C.Add(c)
		return api.OK
	}
	err := s.close()
	s.terms = append(s.terms, mpoly.Term{E: e, C: c})
	return err
}

// close takes the last term off, if it has come to 0; ErrLimit, if there are too many then.
func (s *sum) close() api.Errno {
	last := len(s.terms) - 1
	if last >= 0 && s.isNought(s.terms[last].C) {
		s.terms = s.terms[:last]
	}
	if len(s.terms) > api.MaxTerms {
		return api.ErrLimit
	}
	return api.OK
}

// isNought tells whether a number is 0 in the ring.
func (s *sum) isNought(c bigint.Int) bool {
	if s.p == 0 {
		return c.Sign() == 0
	}
	left, _ := c.Mod(s.p)
	return left == 0
}
