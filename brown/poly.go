package brown

import (
	"iter"
	"slices"

	"vinculum/bigint"
	"vinculum/upoly"
	"vinculum/word"
)

// byOwnChoice is upoly's way of a product that is fast at all lengths, and has no limit.
const byOwnChoice = 0

// mono is a term over a field.
type mono struct {
	at place
	c  uint64
}

// poly is a polynomial over a field: its terms, falling by their places, none of them 0.
type poly []mono

// field is the numbers modulo a prime, and the polynomials of one variable over them.
type field struct {
	numbers *word.Field
	polys   *upoly.Field
}

// fieldOf is that of a prime below 2 to the 63rd.
func fieldOf(p uint64) field {
	numbers, _ := word.New(p)
	polys, _ := upoly.New(p)
	return field{numbers, polys}
}

// modulo is terms over a field.
func (f field) modulo(list []part) poly {
	a := make(poly, 0, len(list))
	for _, x := range list {
		if c, _ := x.c.Mod(f.numbers.M()); c != 0 {
			a = append(a, mono{x.at, c})
		}
	}
	return a
}

// parts are the same terms as those of a ring.
func (a poly) parts() []part {
	list := make([]part, len(a))
	for i, x := range a {
		list[i] = part{x.at, bigint.Of(int(x.c))} // it is below 2 to the 63rd, as the prime is
	}
	return list
}

// columns are a polynomial as one whose coefficients are polynomials of the last variable,
// each at its place, which is without that variable.
func (a poly) columns() iter.Seq2[place, upoly.Poly] {
	return func(yield func(place, upoly.Poly) bool) {
		for len(a) > 0 {
			above, n := a[0].at.above(), 1
			for n < len(a) && a[n].at.above() == above {
				n++
			}
			if !yield(above, a[:n].column()) {
				return
			}
			a = a[n:]
		}
	}
}

// column is terms that have the last variable alone, but for a factor of all.
func (a poly) column() upoly.Poly {
	u := make(upoly.Poly, a[0].at.last()+1)
	for _, x := range a {
		u[x.at.last()] = x.c
	}
	return u
}

// columnAt is the terms of a polynomial of the last variable, at a place of the others.
func columnAt(above place, u upoly.Poly) poly {
	var a poly
	for i := len(u) - 1; i >= 0; i-- {
		if u[i] != 0 {
			a = append(a, mono{above.with(i), u[i]})
		}
	}
	return a
}

// widened is a polynomial with one more variable behind the others, of which it has no power.
func (a poly) widened() poly {
	b := make(poly, len(a))
	for i, x := range a {
		b[i] = mono{x.at.with(0), x.c}
	}
	return b
}

// first is the first column.
func (a poly) first() upoly.Poly {
	for _, u := range a.columns() {
		return u
	}
	return nil
}

// highest is the greatest exponent of each variable.
func (a poly) highest() place {
	var high place
	for _, x := range a {
		high = high.higher(x.at)
	}
	return high
}

// eachColumn is a polynomial with something else in the place of each column.
func (a poly) eachColumn(change func(upoly.Poly) upoly.Poly) poly {
	b := make(poly, 0, len(a))
	for above, u := range a.columns() {
		b = append(b, columnAt(above, change(u))...)
	}
	return b
}

// without is a polynomial, divided by one of the last variable that divides it and has 1 as
// its highest coefficient.
func (f field) without(a poly, by upoly.Poly) poly {
	if len(by) == 1 {
		return a
	}
	return a.eachColumn(func(u upoly.Poly) upoly.Poly {
		q, _, _ := f.polys.DivMod(u, by)
		return q
	})
}

// times is a polynomial, times one of the last variable.
func (f field) times(a poly, by upoly.Poly) poly {
	return a.eachColumn(func(u upoly.Poly) upoly.Poly { return f.product(u, by) })
}

func (f field) product(a, b upoly.Poly) upoly.Poly {
	product, _ := f.polys.Mul(a, b, byOwnChoice)
	return product
}

// scaled is a polynomial, times a number that is not 0.
func (f field) scaled(a poly, by uint64) poly {
	b := make(poly, len(a))
	for i, x := range a {
		b[i] = mono{x.at, f.numbers.Mul(x.c, by)}
	}
	return b
}

// monic is a polynomial with 1 as its first coefficient.
func (f field) monic(a poly) poly {
	inverse, _ := f.numbers.Inv(a[0].c)
	return f.scaled(a, inverse)
}

// powers are those of a number, from the 0th to the nth.
func (f field) powers(x uint64, n int) []uint64 {
	list := make([]uint64, n+1)
	list[0] = 1
	for i := range n {
		list[i+1] = f.numbers.Mul(list[i], x)
	}
	return list
}

// value is a polynomial with a number, whose powers are handed in, in the place of the last
// variable.
func (f field) value(a poly, powers []uint64) poly {
	var b poly
	for _, t := range a {
		c := f.numbers.Mul(t.c, powers[t.at.last()])
		if n := len(b) - 1; n >= 0 && b[n].at == t.at.above() {
			b[n].c = f.numbers.Add(b[n].c, c)
		} else {
			b = append(b, mono{t.at.above(), c})
		}
	}
	return slices.DeleteFunc(b, func(t mono) bool { return t.c == 0 })
}
