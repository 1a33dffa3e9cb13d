package brown

import (
	"container/heap"

	"vinculum/api"
	"vinculum/upoly"
)

// column is one of a polynomial, at its place.
type column struct {
	at place
	u  upoly.Poly
}

// divides tells whether b divides a, neither of which is 0; ErrLimit, if that takes too long.
//
// It goes column by column, as long as the first column of b goes into that of what is left.
// The powers of a quotient have no more room than those of a are above those of b; what goes
// beyond that is none.
func (s search) divides(b, a poly) (bool, api.Errno) {
	highA, highB := a.highest(), b.highest()
	if !highA.holds(highB) {
		return false, api.OK
	}
	room, left := highA-highB, restOf(a)
	by := columnsOf(b)
	for s.limit() == api.OK {
		x, is := left.pop()
		if !is {
			return true, api.OK
		}
		q, goes := s.quotient(x, by[0])
		if !goes || !room.holds(q.at.with(len(q.u)-1)) {
			return false, api.OK
		}
		s.takeOff(left, q, by[1:])
	}
	return false, api.ErrLimit
}

func columnsOf(a poly) []column {
	var list []column
	for at, u := range a.columns() {
		list = append(list, column{at, u})
	}
	return list
}

// quotient is a column, divided by another one, if that goes up.
func (s search) quotient(x, by column) (column, bool) {
	if !x.at.holds(by.at) {
		return column{}, false
	}
	s.count(len(x.u) * len(by.u))
	q, left, _ := s.polys.DivMod(x.u, by.u)
	return column{x.at - by.at, q}, len(left) == 0
}

// takeOff takes the products of a column and others off what is left.
func (s search) takeOff(left *rest, q column, list []column) {
	for _, x := range list {
		s.count(columnWork + len(q.u)*len(x.u))
		at := q.at + x.at
		left.put(at, s.polys.Sub(left.columns[at], s.product(q.u, x.u)))
	}
}

// rest is what is left of a polynomial that is divided.
type rest struct {
	columns map[place]upoly.Poly
	order   places // where there are columns, or were
}

func restOf(a poly) *rest {
	r := &rest{columns: map[place]upoly.Poly{}}
	for at, u := range a.columns() {
		r.put(at, u)
	}
	return r
}

// put has a column in the place of another one.
func (r *rest) put(at place, u upoly.Poly) {
	if _, is := r.columns[at]; !is {
		heap.Push(&r.order, at)
	}
	r.columns[at] = u
}

// pop takes out the first column that is not 0; false, if there is none.
func (r *rest) pop() (column, bool) {
	for len(r.order) > 0 {
		at := heap.Pop(&r.order).(place)
		u := r.columns[at]
		delete(r.columns, at)
		if len(u) > 0 {
			return column{at, u}, true
		}
	}
	return column{}, false
}

// places are a heap of the library's, the greatest one first.
type places []place

func (l places) Len() int           { return len(l) }
func (l places) Less(i, j int) bool { return l[i] > l[j] }
func (l places) Swap(i, j int)      { l[i], l[j] = l[j], l[i] }
func (l *places) Push(x any)        { *l = append(*l, x.(place)) }

func (l *places) Pop() any {
	last := len(*l) - 1
	at := (*l)[last]
	*l = (*l)[:last]
	return at
}
