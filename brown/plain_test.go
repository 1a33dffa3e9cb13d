package brown_test

import (
	"math/big"
	"slices"
	"testing"

	"vinculum/api"
	"vinculum/bigint"
	"vinculum/mpoly"
	"vinculum/nat"
)

// What follows finds greatest common divisors by Euclid's steps, variable by variable, over
// numbers of the library's: what the program is held against.

// exponents are a list as a key, with 0 behind it.
type exponents [mostVars]int

// plain is a polynomial as a number for each of its exponents, none of them 0.
type plain map[exponents]*big.Int

// ground is what the numbers are: all of them (p 0), or those modulo p.
type ground struct{ p *big.Int }

func groundOf(r api.Ring) ground { return ground{new(big.Int).SetUint64(r.P)} }

func (k ground) isField() bool { return k.p.Sign() > 0 }

func (k ground) put(a plain, e exponents, c *big.Int) {
	sum := new(big.Int).Set(c)
	if x := a[e]; x != nil {
		sum.Add(sum, x)
	}
	if k.isField() {
		sum.Mod(sum, k.p)
	}
	if sum.Sign() == 0 {
		delete(a, e)
	} else {
		a[e] = sum
	}
}

func (k ground) of(a mpoly.Poly) plain {
	b := plain{}
	for _, x := range a.Terms() {
		var e exponents
		copy(e[:], x.E)
		n := new(big.Int)
		for _, w := range slices.Backward(x.C.Nat()) {
			n.Lsh(n, 64).Or(n, new(big.Int).SetUint64(w))
		}
		if x.C.Sign() < 0 {
			n.Neg(n)
		}
		k.put(b, e, n)
	}
	return b
}

func (k ground) times(a, b plain) plain {
	c := plain{}
	for e, x := range a {
		for f, y := range b {
			g := e
			for v := range g {
				g[v] += f[v]
			}
			k.put(c, g, new(big.Int).Mul(x, y))
		}
	}
	return c
}

// less is a, less b.
func (k ground) less(a, b plain) plain {
	c := plain{}
	for e, x := range a {
		k.put(c, e, x)
	}
	for e, x := range b {
		k.put(c, e, new(big.Int).Neg(x))
	}
	return c
}

// first is the exponents that stand ahead of all, by Lex.
func (a plain) first() exponents {
	var high exponents
	for e := range a {
		if slices.Compare(e[:], high[:]) > 0 {
			high = e
		}
	}
	return high
}

// ratio is a number, divided by another one that goes into it.
func (k ground) ratio(x, y *big.Int) *big.Int {
	if k.isField() {
		return new(big.Int).Mul(x, new(big.Int).ModInverse(y, k.p))
	}
	return new(big.Int).Quo(x, y)
}

// over is a, divided by b, which goes into it.
func (k ground) over(a, b plain) plain {
	q, last := plain{}, b.first()
	for len(a) > 0 {
		at := a.first()
		c := k.ratio(a[at], b[last])
		for v := range at {
			at[v] -= last[v]
		}
		k.put(q, at, c)
		a = k.less(a, k.times(plain{at: c}, b))
	}
	return q
}

// parts are a's coefficients by the powers of a variable.
func (a plain) parts(v int) []plain {
	var l []plain
	for e, x := range a {
		for len(l) <= e[v] {
			l = append(l, plain{})
		}
		f := e
		f[v] = 0
		l[e[v]][f] = x
	}
	return l
}

// content is the greatest common divisor of a's coefficients by the powers of a variable.
func (k ground) content(a plain, v int) plain {
	all := plain{}
	for _, x := range a.parts(v) {
		all = k.gcd(all, x, v+1)
	}
	return all
}

// left is a multiple of a, less one of b, whose power of v is lower than b's.
func (k ground) left(a, b plain, v int) plain {
	l := b.parts(v)
	for {
		m := a.parts(v)
		if len(m) < len(l) {
			return a
		}
		shift := exponents{}
		shift[v] = len(m) - len(l)
		moved := k.times(plain{shift: big.NewInt(1)}, m[len(m)-1])
		a = k.less(k.times(a, l[len(l)-1]), k.times(moved, b))
	}
}

// gcd is the greatest common divisor of polynomials of the variables from v on, with a first
// coefficient above 0, or 1 over a field.
func (k ground) gcd(a, b plain, v int) plain {
	switch {
	case len(a) == 0:
		return k.normed(b)
	case len(b) == 0:
		return k.normed(a)
	case v == mostVars:
		n := big.NewInt(1)
		if !k.isField() {
			n.GCD(nil, nil, new(big.Int).Abs(a[exponents{}]), new(big.Int).Abs(b[exponents{}]))
		}
		return plain{{}: n}
	}
	x, y := k.content(a, v), k.content(b, v)
	common := k.gcd(x, y, v+1)
	a, b = k.over(a, x), k.over(b, y)
	for len(b) > 0 {
		c := k.left(a, b, v)
		if len(c) > 0 {
			c = k.over(c, k.content(c, v))
		}
		a, b = b, c
	}
	return k.normed(k.times(common, a))
}

func (k ground) normed(a plain) plain {
	if len(a) == 0 {
		return a
	}
	unit, first := big.NewInt(1), a[a.first()]
	switch {
	case k.isField():
		unit.ModInverse(first, k.p)
	case first.Sign() < 0:
		unit.Neg(unit)
	}
	return k.times(plain{{}: unit}, a)
}

// back is a polynomial of a ring, with a first coefficient that is as it is to be.
func (k ground) back(t *testing.T, r api.Ring, a plain) mpoly.Poly {
	t.Helper()
	var l []mpoly.Term
	for e, x := range a {
		var words nat.Nat
		for n := new(big.Int).Abs(x); n.Sign() > 0; n.Rsh(n, 64) {
			words = append(words, new(big.Int).And(n, new(big.Int).SetUint64(^uint64(0))).Uint64())
		}
		l = append(l, mpoly.Term{E: slices.Clone(e[:len(r.Vars)]), C: bigint.From(x.Sign() < 0, words)})
	}
	return asItIsToBe(t, polyOf(t, r, l))
}

// asItIsToBe is a polynomial with a first coefficient above 0, or 1 over a field.
func asItIsToBe(t *testing.T, a mpoly.Poly) mpoly.Poly {
	t.Helper()
	if a.Len() == 0 {
		return a
	}
	p, first := a.Ring().P, a.Terms()[0].C
	by := bigint.Of(1)
	switch {
	case p != 0:
		w, _ := first.Mod(p)
		n := new(big.Int).SetUint64(w)
		by = bigint.Of(int(n.ModInverse(n, new(big.Int).SetUint64(p)).Uint64()))
	case first.Sign() < 0:
		by = bigint.Of(-1)
	}
	return fine(t)(a.Scale(mpoly.Term{E: make(list, len(a.Ring().Vars)), C: by}))
}

// plainGcd is the greatest common divisor of two polynomials of one ring.
func plainGcd(t *testing.T, a, b mpoly.Poly) mpoly.Poly {
	t.Helper()
	r := a.Ring()
	k := groundOf(r)
	return k.back(t, r, k.gcd(k.of(a), k.of(b), 0))
}
