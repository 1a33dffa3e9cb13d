package session

import (
	"strconv"
	"strings"

	"vinculum/api"
	"vinculum/brown"
	"vinculum/calc"
	"vinculum/mpoly"
	"vinculum/multi"
	"vinculum/quot"
	"vinculum/sparse"
)

// below is what the primes of a product are to be below.
const below = api.MaxWord

// verb is how lines are done. It answers a polynomial, or a text.
type verb struct {
	kinds []kind // of its arguments
	short bool   // whether the last one may be missing
	bare  bool   // whether it is done without a ring
	poly  func(t *task) (mpoly.Poly, api.Errno)
	text  func(t *task) (string, api.Errno)
}

// fewest is how many arguments there must be.
func (v verb) fewest() int {
	if v.short {
		return len(v.kinds) - 1
	}
	return len(v.kinds)
}

// verbs are all that there are.
func verbs() map[string]verb {
	return map[string]verb{
		"ring":   {kinds: []kind{aModulus, anOrder, someWords}, short: true, bare: true, text: setRing},
		"primes": {kinds: []kind{aList}, short: true, bare: true, text: setPrimes},
		"points": {kinds: []kind{aList}, short: true, bare: true, text: setPoints},
		"names":  {bare: true, text: names},
		"drop":   {kinds: []kind{aName}, bare: true, text: drop},
		"let":    {kinds: []kind{aPoly}, poly: let},
		"add":    {kinds: []kind{aPoly, aPoly}, poly: ofTwo(mpoly.Poly.Add)},
		"sub":    {kinds: []kind{aPoly, aPoly}, poly: ofTwo(mpoly.Poly.Sub)},
		"mul":    {kinds: []kind{aPoly, aPoly}, poly: ofTwo(product)},
		"by":     {kinds: []kind{aWay, aPoly, aPoly}, poly: productBy},
		"pow":    {kinds: []kind{aPoly, aCount}, poly: power},
		"div":    {kinds: []kind{aPoly, aPoly}, poly: ofTwo(quot.Div)},
		"quo":    {kinds: []kind{aPoly, aPoly}, poly: ofTwo(quotient)},
		"rem":    {kinds: []kind{aPoly, aPoly}, poly: ofTwo(rest)},
		"gcd":    {kinds: []kind{aPoly, aPoly}, poly: divisor},
		"diff":   {kinds: []kind{aPoly, aVar}, poly: derivative},
		"subst":  {kinds: []kind{aPoly, aVar, aPoly}, poly: substituted},
		"prim":   {kinds: []kind{aPoly}, poly: primitive},
		"find":   {kinds: []kind{aList, aList}, poly: found},
		"cont":   {kinds: []kind{aPoly}, text: content},
		"deg":    {kinds: []kind{aPoly}, text: inDecimals(mpoly.Poly.Deg)},
		"len":    {kinds: []kind{aPoly}, text: inDecimals(mpoly.Poly.Len)},
		"eval":   {kinds: []kind{aPoly, someNumbers}, short: true, text: value},
		"times":  {kinds: []kind{aPoly, aPoly}, text: times},
		"ask":    {kinds: []kind{aPoly, aCount}, text: asked},
	}
}

func setRing(t *task) (string, api.Errno) {
	r := api.Ring{P: t.lists[0][0], Vars: t.words, Order: t.choice}
	if no := mpoly.Check(r); no != api.OK {
		return "", no
	}
	t.in.ring = r
	t.in.forget(t.in.Names()...)
	return "", api.OK
}

func setPrimes(t *task) (string, api.Errno) {
	t.in.choices.Primes = t.onlyList()
	return "", api.OK
}

func setPoints(t *task) (string, api.Errno) {
	t.in.choices.Points = t.onlyList()
	return "", api.OK
}

// onlyList is the list that is handed in, if there is one.
func (t *task) onlyList() []uint64 {
	for _, l := range t.lists {
		return l
	}
	return nil
}

func names(t *task) (string, api.Errno) { return strings.Join(t.in.Names(), " "), api.OK }

func drop(t *task) (string, api.Errno) {
	t.in.forget(t.words...)
	return "", api.OK
}

func let(t *task) (mpoly.Poly, api.Errno) { return t.polys[0], api.OK }

// ofTwo puts the two polynomials that are handed in together by a function.
func ofTwo(put func(a, b mpoly.Poly) (mpoly.Poly, api.Errno)) func(*task) (mpoly.Poly, api.Errno) {
	return func(t *task) (mpoly.Poly, api.Errno) { return put(t.polys[0], t.polys[1]) }
}

func product(a, b mpoly.Poly) (mpoly.Poly, api.Errno) { return multi.Mul(a, b, multi.Auto, below) }

func productBy(t *task) (mpoly.Poly, api.Errno) {
	return multi.Mul(t.polys[0], t.polys[1], t.choice, below)
}

func power(t *task) (mpoly.Poly, api.Errno) {
	return multi.Pow(t.polys[0], t.count, multi.Auto, below)
}

func quotient(a, b mpoly.Poly) (mpoly.Poly, api.Errno) {
	q, _, no := quot.DivMod(a, b)
	return q, no
}

func rest(a, b mpoly.Poly) (mpoly.Poly, api.Errno) {
	_, r, no := quot.DivMod(a, b)
	return r, no
}

func divisor(t *task) (mpoly.Poly, api.Errno) {
	return brown.Gcd(t.polys[0], t.polys[1], t.in.choices)
}

func derivative(t *task) (mpoly.Poly, api.Errno) { return calc.Derive(t.polys[0], t.choice) }

func substituted(t *task) (mpoly.Poly, api.Errno) {
	return calc.Subst(t.polys[0], t.choice, t.polys[1])
}

func primitive(t *task) (mpoly.Poly, api.Errno) { return calc.Primitive(t.polys[0]), api.OK }

func found(t *task) (mpoly.Poly, api.Errno) {
	return sparse.Find(t.in.ring, t.lists[0], t.lists[1])
}

func content(t *task) (string, api.Errno) { return calc.Content(t.polys[0]).Print(), api.OK }

// inDecimals is what a function tells of the polynomial that is handed in.
func inDecimals(tell func(a mpoly.Poly) int) func(*task) (string, api.Errno) {
	return func(t *task) (string, api.Errno) { return strconv.Itoa(tell(t.polys[0])), api.OK }
}

func value(t *task) (string, api.Errno) {
	n, no := calc.Eval(t.polys[0], t.numbers)
	return n.Print(), no
}

func times(t *task) (string, api.Errno) {
	n, _, no := quot.Times(t.polys[0], t.polys[1])
	return strconv.Itoa(n), no
}

func asked(t *task) (string, api.Errno) {
	l, no := sparse.Ask(t.polys[0], t.count)
	texts := make([]string, len(l))
	for i, n := range l {
		texts[i] = strconv.FormatUint(n, 10)
	}
	return strings.Join(texts, " "), no
}
