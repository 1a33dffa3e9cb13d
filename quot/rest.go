package quot

import (
	"vinculum/api"
	"vinculum/bigint"
	"vinculum/heap"
	"vinculum/mpoly"
	"vinculum/term"
)

// rest is what is still to be divided: a sum of rows, of which no more is worked out than
// is asked for. However many rows have the same exponents, the heap has them once.
type rest struct {
	ring    api.Ring
	bunches *heap.Heap[*bunch]
	at      map[exponents]*bunch // those that are in the heap
}

// row is a term, times each one of a list that falls: so these products fall too.
type row struct {
	by   mpoly.Term
	list []mpoly.Term // what is still to be multiplied
	next *row         // another one of the same bunch
}

// bunch is rows whose next products have the same exponents: these make a term together.
type bunch struct {
	at   exponents
	e    []int // the same ones, as an order takes them
	rows *row
}

// exponents are those of a term, as a key of a map.
type exponents [api.MaxVars]int32

// together is those of the product of two terms.
func together(x, y []int) exponents {
	var e exponents
	for v := range x {
		e[v] = int32(x[v] + y[v])
	}
	return e
}

// list is the exponents of so many variables.
func (e exponents) list(vars int) []int {
	l := make([]int, vars)
	for v := range l {
		l[v] = int(e[v])
	}
	return l
}

// order is one of a ring.
type order int

// ahead tells whether the term of one bunch stands ahead of that of another one.
func (o order) ahead(x, y *bunch) bool {
	c, _ := term.Cmp(int(o), x.e, y.e)
	return c > 0
}

// restOf is 0 of a ring.
func restOf(r api.Ring) *rest {
	return &rest{r, heap.New(order(r.Order).ahead), map[exponents]*bunch{}}
}

// put puts a row where its next product belongs, if there is one.
func (l *rest) put(x *row) {
	if len(x.list) == 0 {
		return
	}
	at := together(x.by.E, x.list[0].E)
	b := l.at[at]
	if b == nil {
		b = &bunch{at: at, e: at.list(len(l.ring.Vars))}
		l.at[at] = b
		l.bunches.Push(b)
	}
	x.next, b.rows = b.rows, x
}

// pop takes the term off that stands ahead of all, if there is one. What its rows make
// together may be 0.
func (l *rest) pop() (mpoly.Term, bool) {
	b, is := l.bunches.Pop()
	if !is {
		return mpoly.Term{}, false
	}
	delete(l.at, b.at)
	var sum bigint.Int
	for x := b.rows; x != nil; {
		next := x.next // put writes another one there
		sum = sum.Add(x.by.C.Mul(x.list[0].C))
		x.list = x.list[1:]
		l.put(x)
		x = next
	}
	return mpoly.Term{E: b.e, C: l.coefficient(sum)}, true
}

// coefficient is a number as one of the ring's.
func (l *rest) coefficient(c bigint.Int) bigint.Int {
	if l.ring.P == 0 {
		return c
	}
	w, _ := c.Mod(l.ring.P)
	return number(w)
}
