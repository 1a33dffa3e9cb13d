package kron_test

import (
	"slices"
	"testing"

	"vinculum/api"
	"vinculum/bigint"
	"vinculum/kron"
	"vinculum/mpoly"
)

// way is a product, and how great the product of the Bases may be.
type way struct {
	mul  func(a, b mpoly.Poly) (mpoly.Poly, api.Errno)
	most int64
}

func ways() map[string]way {
	return map[string]way{"Mul": {kron.Mul, mostPlaces}, "Box": {kron.Box, mostBoxed}}
}

// wantProducts holds both products against a plain one, or the limit.
func wantProducts(t *testing.T, what string, a, b mpoly.Poly) {
	t.Helper()
	r, base := a.Ring(), basesOf(a, b)
	var product plain
	for name, way := range ways() {
		got, err := way.mul(a, b)
		if isMore(base, way.most) {
			wantErr(t, name+" of "+what, got, err, api.ErrLimit)
			continue
		}
		if product == nil {
			product = plainOf(a).times(plainOf(b))
		}
		wantPoly(t, name+" of "+what, r, got, err, product)
	}
}

// wantProductErr holds the error of each product, whichever of both is first.
func wantProductErr(t *testing.T, what string, a, b mpoly.Poly, ofMul, ofBox api.Errno) {
	t.Helper()
	for name, want := range map[string]api.Errno{"Mul": ofMul, "Box": ofBox} {
		for _, pair := range [][2]mpoly.Poly{{a, b}, {b, a}} {
			got, err := ways()[name].mul(pair[0], pair[1])
			if want != api.OK {
				wantErr(t, name+" of "+what, got, err, want)
			} else if err != api.OK || !mpoly.Same(got.Ring(), a.Ring()) {
				t.Errorf("%s of %s: got the error %d", name, what, int(err))
			}
		}
	}
}

func TestProducts(t *testing.T) { // P17.3
	s := source(31)
	for _, r := range rings() {
		all := samples(t, &s, r)
		for i, a := range all {
			for j := range 2 {
				wantProducts(t, "samples", a, all[(i+j*5)%len(all)])
			}
		}
	}
}

func TestProductsOfManyVariables(t *testing.T) { // P17.3: each variable has its own place
	for _, p := range []uint64{7, greatest} {
		r := ring(p, api.GrevLex, mostVars)
		var l []mpoly.Term
		for v := range mostVars {
			e := make(list, mostVars)
			e[v] = 1 + v%2
			l = append(l, mpoly.Term{E: e, C: bigint.Of(v + 1)})
		}
		a, one := polyOf(t, r, l), number(t, r, 3)
		wantProducts(t, "the sum of all variables by 3", a, one)
		wantProducts(t, "half of the variables by others", polyOf(t, r, l[:4]), polyOf(t, r, l[4:]))
		wantProducts(t, "some of the variables", polyOf(t, r, l[2:5]), polyOf(t, r, l[3:6]))
		for v := range mostVars {
			wantProducts(t, "the sum of all variables by one", a, polyOf(t, r, l[v:v+1]))
		}
	}
}

func TestProductsOfTheGreatestNumbers(t *testing.T) { // P17.3: all coefficients are P less 1
	for _, p := range []uint64{2, 3, 998244353, 9223372036854775643, greatest} {
		for _, order := range termOrders() {
			r := ring(p, order, 2)
			a := polyOf(t, r, append(row(200, 0, -1, 0, 2), row(3, 1, -1, 1, 2)...))
			wantProducts(t, "P less 1", a, a)
		}
	}
}

func TestProductsOverOtherRings(t *testing.T) { // P17.3: ErrRing, ahead of all else
	xy, z := ring(7, api.Lex, 2), ring(0, api.Lex, 2)
	for _, a := range []mpoly.Poly{made(t, xy), made(t, xy, list{1, 1, 0}), made(t, xy, list{1, mostExp, mostExp})} {
		for _, b := range others(t) {
			wantProductErr(t, "another ring", a, b, api.ErrRing, api.ErrRing)
		}
		wantProductErr(t, "another ring, and too high", a, made(t, z, list{1, mostExp, mostExp}), api.ErrRing, api.ErrRing)
	}
	wantProductErr(t, "two rings over the integers", made(t, z), made(t, ring(0, api.GrLex, 2)), api.ErrRing, api.ErrRing)
	wantProductErr(t, "the zero Poly by another one over the integers", mpoly.Poly{}, made(t, z), api.ErrRing, api.ErrRing)
}

func TestProductsOverTheIntegers(t *testing.T) { // P17.3: ErrArg, ahead of the limits
	for _, vars := range []int{0, 1, 2, 8} {
		r := ring(0, api.GrLex, vars)
		one, none := number(t, r, 1), made(t, r)
		wantProductErr(t, "noughts over the integers", none, none, api.ErrArg, api.ErrArg)
		wantProductErr(t, "1 by 0 over the integers", one, none, api.ErrArg, api.ErrArg)
		wantProductErr(t, "1 by 1 over the integers", one, one, api.ErrArg, api.ErrArg)
		if vars > 0 {
			high := polyOf(t, r, row(1, mostExp, 1, 0, vars))
			wantProductErr(t, "high ones over the integers", high, high, api.ErrArg, api.ErrArg)
		}
	}
	wantProductErr(t, "zero Polys", mpoly.Poly{}, mpoly.Poly{}, api.ErrArg, api.ErrArg)
}

func TestProductsOfNought(t *testing.T) { // P17.3: 0 of the same ring, however high the other one is
	s := source(32)
	for _, r := range rings() {
		none := made(t, r)
		for _, b := range []mpoly.Poly{none, number(t, r, 1), s.poly(t, r, 9, 3), s.poly(t, r, 9, mostExp+1)} {
			for name, way := range ways() {
				wantSame(t, name+" of 0 by another one", fine(t)(way.mul(none, b)), none)
				wantSame(t, name+" of another one by 0", fine(t)(way.mul(b, none)), none)
			}
		}
	}
}

func TestProductsAtTheLimits(t *testing.T) { // P17.3: the product of the Bases
	none, both := api.ErrLimit, api.OK
	cases := []struct {
		base         list
		ofMul, ofBox api.Errno
	}{
		{list{mostBoxed, 1}, both, both}, {list{mostBoxed + 1, 1}, both, none}, {list{256, 256}, both, both}, {list{257, 255}, both, both}, {list{1, mostBoxed + 1}, both, none}, {list{6, 10923}, both, none}, {list{3, 21845}, both, both}, {list{32769, 2}, both, none},
		{list{mostPlaces, 1}, both, none}, {list{512, 512}, both, none}, {list{mostPlaces + 1, 1}, none, none}, {list{5, 52429}, none, none}, {list{52429, 5}, none, none}, {list{65, 4033}, none, none}, {list{511, 513}, both, none}, {list{3, 87381}, both, none}, {list{131073, 2}, none, none}, {list{2, 131073}, none, none}, {list{2, 131072}, both, none},
		{list{mostExp + 1, 1}, none, none}, {list{2*mostExp + 1, 2*mostExp + 1}, none, none}, {list{1, 2*mostExp + 1}, none, none},
	}
	for _, c := range cases {
		x, y := c.base[0]-1, c.base[1]-1
		r := ring(2, api.GrevLex, 2)
		wantProductErr(t, "two at the limits", made(t, r, list{1, x / 2, y / 2}, list{1, 0, 0}), made(t, r, list{1, x - x/2, y - y/2}), c.ofMul, c.ofBox)
		r = ring(greatest, api.GrLex, 2)
		wantProducts(t, "two at the limits", made(t, r, list{3, x - x/2, y / 2}, list{5, 0, 0}), made(t, r, list{1, x / 2, y - y/2}, list{-1, 0, 0}))
		if max(x, y) <= mostExp {
			wantProducts(t, "one at the limits", made(t, r, list{3, x, y}, list{1, 0, 0}), number(t, r, -1))
		}
	}
}

func TestProductsOfManyBases(t *testing.T) { // P17.3: their product is no int
	r := ring(7, api.Lex, mostVars)
	for _, high := range []int{1 << 7, 1 << 8, 1<<15 - 1, 1 << 15, 1<<16 - 1, mostExp} {
		a := polyOf(t, r, []mpoly.Term{{E: slices.Repeat(list{high}, mostVars), C: bigint.Of(1)}})
		wantProductErr(t, "high powers of all variables", a, a, api.ErrLimit, api.ErrLimit)
		wantProductErr(t, "high powers of all variables, and 1", a, number(t, r, 1), api.ErrLimit, api.ErrLimit)
	}
	// Bases 4, 8 of them, are 65536; with a fifth power in the place of a third they are above it, and not above 262144.
	var a, b, c list = slices.Repeat(list{2}, mostVars), slices.Repeat(list{1}, mostVars), slices.Repeat(list{1}, mostVars)
	c[5] = 2
	one := func(e list) mpoly.Poly {
		return polyOf(t, r, []mpoly.Term{{E: e, C: bigint.Of(2)}, {E: make(list, mostVars), C: bigint.Of(1)}})
	}
	wantProductErr(t, "bases 4", one(a), one(b), api.OK, api.OK)
	wantProductErr(t, "bases 4 and 5", one(a), one(c), api.OK, api.ErrLimit)
	wantProducts(t, "bases 4", one(a), one(b))
	wantProducts(t, "bases 4 and 5", one(a), one(c))
}

func TestProductsOfManyTerms(t *testing.T) { // P17.3: a polynomial has no more than 100000 terms (mpoly's limit): 11 times 9091 is one above it
	for _, p := range []uint64{2, greatest} {
		r := ring(p, api.GrLex, 2)
		for _, c := range []struct {
			n, m int
			want api.Errno
		}{{1000, 100, api.OK}, {9091, 11, api.ErrLimit}, {mostTerms, 1, api.OK}, {50001, 2, api.ErrLimit}, {512, 512, api.ErrLimit}, {400, 250, api.OK}, {400, 251, api.ErrLimit}} {
			a, b := polyOf(t, r, row(c.n, 0, 1, 0, 2)), polyOf(t, r, row(c.m, 0, 1, 1, 2))
			if c.want != api.OK {
				wantProductErr(t, "many terms", a, b, c.want, api.ErrLimit)
			} else {
				wantSame(t, "Mul of many terms", fine(t)(kron.Mul(a, b)), fine(t)(a.Mul(b)))
			}
		}
	}
}

func TestProductsOfManyPairs(t *testing.T) { // P17.3: there is no limit of these
	for _, p := range []uint64{2, 7, 998244353, greatest} {
		r := ring(p, api.Lex, 1)
		a := polyOf(t, r, row(50000, 0, 1, 0, 1))
		want := make([]mpoly.Term, 99999)
		for i := range want {
			want[i] = mpoly.Term{E: list{i}, C: bigint.Of(min(i+1, 99999-i))}
		}
		wantSame(t, "Mul of 50000 by 50000 terms", fine(t)(kron.Mul(a, a)), polyOf(t, r, want))
		b := polyOf(t, r, row(32768, 0, 1, 0, 1))
		want = make([]mpoly.Term, 65535)
		for i := range want {
			want[i] = mpoly.Term{E: list{i}, C: bigint.Of(min(i+1, 65535-i))}
		}
		wantSame(t, "Box of 32768 by 32768 terms", fine(t)(kron.Box(b, b)), polyOf(t, r, want))
	}
	two := ring(2, api.Lex, 1)
	full := polyOf(t, two, row(mostTerms, 0, 1, 0, 1))
	square := fine(t)(kron.Mul(full, full))
	if square.Len() != mostTerms || square.In(0) != 2*mostTerms-2 {
		t.Errorf("the square of 100000 terms modulo 2: got %d terms", square.Len())
	}
	for _, x := range square.Terms() {
		if x.E[0]%2 != 0 {
			t.Fatalf("the square of 100000 terms modulo 2: got x^%d", x.E[0])
		}
	}
}

func TestProductsWhoseTermsGo(t *testing.T) { // P17.3: what is 0 in the end is no term
	for _, p := range []uint64{2, 7, greatest} {
		r := ring(p, api.Lex, 1)
		a, b := polyOf(t, r, row(60000, 0, 1, 0, 1)), made(t, r, list{1, 1}, list{-1, 0})
		want := made(t, r, list{1, 60000}, list{-1, 0})
		for name, way := range ways() {
			wantSame(t, name+" of 1 + x + .. by x - 1", fine(t)(way.mul(a, b)), want)
			wantSame(t, name+" of x - 1 by 1 + x + ..", fine(t)(way.mul(b, a)), want)
		}
	}
}
