package mpoly_test

import (
	"math"
	"math/big"
	"slices"
	"testing"

	"vinculum/api"
	"vinculum/bigint"
	"vinculum/mpoly"
)

// The limits, and the greatest prime that a ring may have.
const (
	mostVars  = 8
	mostExp   = 1048576
	mostTerms = 100000
	mostPower = 1000
	greatest  = 9223372036854775783
)

type list = []int

// source is numbers that look like any others, the same ones in every run.
type source uint64

func (s *source) word() uint64 {
	*s += 0x9e3779b97f4a7c15
	w := uint64(*s)
	w = (w ^ w>>30) * 0xbf58476d1ce4e5b9
	w = (w ^ w>>27) * 0x94d049bb133111eb
	return w ^ w>>31
}

// below is a number from 0 to n less 1.
func (s *source) below(n int) int { return int(s.word() % uint64(n)) }

// number is a whole number: often a small one, now and then one of many words.
func (s *source) number() bigint.Int {
	switch s.below(8) {
	case 0:
		return bigint.Of(int(s.word()))
	case 1:
		x := bigint.Of(int(s.word()))
		return x.Mul(x).Mul(bigint.Of(int(s.word())))
	default:
		return bigint.Of(s.below(11) - 5)
	}
}

// terms are n of so many variables, with exponents below a number.
func (s *source) terms(n, vars, below int) []mpoly.Term {
	l := make([]mpoly.Term, n)
	for i := range l {
		l[i] = mpoly.Term{E: make(list, vars), C: s.number()}
		for v := range vars {
			l[i].E[v] = s.below(below)
		}
	}
	return l
}

func (s *source) poly(t *testing.T, r api.Ring, n, below int) mpoly.Poly {
	t.Helper()
	return polyOf(t, r, s.terms(n, len(r.Vars), below))
}

func orders() []int { return []int{api.Lex, api.GrLex, api.GrevLex} }

// names are n variables.
func names(n int) []string { return []string{"x", "y", "z", "a_1", "B", "t0", "u", "w"}[:n] }

// ring is one of so many variables.
func ring(p uint64, order, vars int) api.Ring { return api.Ring{P: p, Vars: names(vars), Order: order} }

// rings are some of each kind.
func rings() []api.Ring {
	var all []api.Ring
	for _, p := range []uint64{0, 2, 7, 998244353, greatest} {
		for _, order := range orders() {
			for _, vars := range []int{0, 1, 2, 3, 8} {
				all = append(all, ring(p, order, vars))
			}
		}
	}
	return all
}

func polyOf(t *testing.T, r api.Ring, l []mpoly.Term) mpoly.Poly {
	t.Helper()
	a, err := mpoly.Make(r, l)
	if err != api.OK {
		t.Fatalf("Make over %v of %d terms: error %d", r, len(l), int(err))
	}
	return a
}

// termsOf are those of rows: a coefficient, and exponents.
func termsOf(rows ...list) []mpoly.Term {
	var l []mpoly.Term
	for _, row := range rows {
		l = append(l, mpoly.Term{E: row[1:], C: bigint.Of(row[0])})
	}
	return l
}

func made(t *testing.T, r api.Ring, rows ...list) mpoly.Poly {
	t.Helper()
	return polyOf(t, r, termsOf(rows...))
}

func toBig(x bigint.Int) *big.Int {
	n, _ := new(big.Int).SetString(x.Print(), 10)
	return n
}

// exponents are a list as a key, with 0 behind it.
type exponents [mostVars]int

func keyOf(e list) exponents {
	var key exponents
	copy(key[:], e)
	return key
}

// plain is a polynomial as a number for each of its exponents, over the integers: what the program is held against.
type plain map[exponents]*big.Int

func (a plain) put(e exponents, c *big.Int) {
	if a[e] == nil {
		a[e] = new(big.Int)
	}
	a[e].Add(a[e], c)
}

func plainOf(l []mpoly.Term) plain {
	a := plain{}
	for _, t := range l {
		a.put(keyOf(t.E), toBig(t.C))
	}
	return a
}

// plus is a, and b so many times.
func (a plain) plus(b plain, times int64) plain {
	sum := plain{}
	for e, c := range a {
		sum.put(e, c)
	}
	for e, c := range b {
		sum.put(e, new(big.Int).Mul(c, big.NewInt(times)))
	}
	return sum
}

func (a plain) times(b plain) plain {
	product := plain{}
	for e, c := range a {
		for f, d := range b {
			g := e
			for v := range g {
				g[v] += f[v]
			}
			product.put(g, new(big.Int).Mul(c, d))
		}
	}
	return product
}

// within is a, modulo the ring's prime, without what is 0.
func (a plain) within(r api.Ring) plain {
	left := plain{}
	for e, c := range a {
		if r.P != 0 {
			c = new(big.Int).Mod(c, new(big.Int).SetUint64(r.P))
		}
		if c.Sign() != 0 {
			left[e] = c
		}
	}
	return left
}

// rank is numbers of which the first that is greater tells what stands ahead.
func rank(order int, e exponents) list {
	degree := 0
	for _, x := range e {
		degree += x
	}
	l := list{degree}
	switch order {
	case api.Lex:
		return e[:]
	case api.GrLex:
		return append(l, e[:]...)
	default:
		for _, x := range slices.Backward(e[:]) {
			l = append(l, -x)
		}
		return l
	}
}

// wantPoly holds a polynomial against what it is to be: its ring, each of its terms, how they stand, and that it is not too long.
func wantPoly(t *testing.T, what string, r api.Ring, got mpoly.Poly, err api.Errno, want plain) {
	t.Helper()
	want = want.within(r)
	if err != api.OK || !mpoly.Same(got.Ring(), r) || got.Len() != len(want) || len(got.Terms()) != len(want) {
		t.Errorf("%s, over %v: got error %d, the ring %v and %d terms, want %d", what, r, int(err), got.Ring(), got.Len(), len(want))
		return
	}
	var last list
	for i, x := range got.Terms() {
		c := want[keyOf(x.E)]
		if len(x.E) != len(r.Vars) || c == nil || c.Cmp(toBig(x.C)) != 0 {
			t.Errorf("%s, over %v: got the term %s at %d, want %v", what, r, x.C.Print(), x.E, c)
			return
		}
		next := rank(r.Order, keyOf(x.E))
		if i > 0 && slices.Compare(last, next) <= 0 {
			t.Errorf("%s, over %v: %d stands behind another one, not ahead", what, r, x.E)
			return
		}
		last = next
	}
}

// wantErr holds an error, and that nothing stands beside it.
func wantErr(t *testing.T, what string, got mpoly.Poly, err, want api.Errno) {
	t.Helper()
	if err != want || !got.Is(mpoly.Poly{}) {
		t.Errorf("%s: got %d terms of %v, error %d, want the error %d", what, got.Len(), got.Ring(), int(err), int(want))
	}
}

// samples are polynomials of a ring of several lengths; 0, 1 and a number are among them.
func samples(t *testing.T, s *source, r api.Ring) []mpoly.Poly {
	t.Helper()
	none := make(list, len(r.Vars))
	l := []mpoly.Poly{made(t, r), polyOf(t, r, []mpoly.Term{{E: none, C: bigint.Of(1)}}), polyOf(t, r, []mpoly.Term{{E: none, C: bigint.Of(-12)}})}
	for _, n := range []int{1, 2, 3, 5, 12, 30} {
		for _, below := range []int{1, 2, 4, 1000} {
			l = append(l, s.poly(t, r, n, below))
		}
	}
	return l
}

func TestWhatThereIs(t *testing.T) { // P14.2: Ring, Terms, Len
	s := source(1)
	for _, r := range rings() {
		for _, n := range []int{0, 1, 2, 7, 40} {
			for _, below := range []int{1, 2, 3, 100, mostExp + 1} {
				l := s.terms(n, len(r.Vars), below)
				wantPoly(t, "Make", r, polyOf(t, r, l), api.OK, plainOf(l))
			}
		}
	}
}

func TestTermsFall(t *testing.T) { // P14.2
	rows := []list{{1, 0, 0, 0}, {2, 0, 0, 1}, {3, 0, 2, 0}, {4, 1, 0, 1}, {5, 1, 1, 0}, {6, 2, 0, 0}, {7, 0, 0, 3}, {8, 0, 1, 1}}
	want := map[int]list{api.Lex: {6, 5, 4, 3, 8, 7, 2, 1}, api.GrLex: {7, 6, 5, 4, 3, 8, 2, 1}, api.GrevLex: {7, 6, 5, 3, 4, 8, 2, 1}}
	for order, coefficients := range want {
		var got list
		for _, x := range made(t, ring(0, order, 3), rows...).Terms() {
			c, _ := x.C.Small()
			got = append(got, c)
		}
		if !slices.Equal(got, coefficients) {
			t.Errorf("order %d: got %d, want %d", order, got, coefficients)
		}
	}
}

func TestAt(t *testing.T) { // P14.2
	s := source(2)
	for _, r := range rings() {
		for range 8 {
			l := s.terms(s.below(30), len(r.Vars), 3)
			a, want := polyOf(t, r, l), plainOf(l).within(r)
			asked := append(s.terms(20, len(r.Vars), 4), l...)
			for _, x := range asked {
				c := want[keyOf(x.E)]
				if c == nil {
					c = new(big.Int)
				}
				if got := a.At(x.E); toBig(got).Cmp(c) != 0 {
					t.Errorf("over %v: At %d: got %s, want %v", r, x.E, got.Print(), c)
				}
			}
		}
	}
}

func TestAtWhatMayNotBe(t *testing.T) { // P14.2: there is none
	wrong := []list{nil, {}, {-1, 0}, {0, -1}, {0, mostExp + 1}, {math.MaxInt, 0}, {math.MinInt, 0}, {1}, {0}, {1, 1, 0}, {0, 0, 0}, {0, 1 << 24}, {1 << 24, 1}, make(list, 9), make(list, 100)}
	for _, order := range orders() {
		for _, a := range []mpoly.Poly{made(t, ring(0, order, 2), list{5, 0, 0}), made(t, ring(0, order, 2), list{5, 0, 0}, list{6, 1, 0}, list{7, 0, 1}, list{8, 1, 1}), made(t, ring(7, order, 2)), {}} {
			for _, e := range wrong {
				if got := a.At(e); got.Sign() != 0 {
					t.Errorf("order %d: At %d: got %s", order, e, got.Print())
				}
			}
		}
	}
	number := made(t, ring(0, api.Lex, 0), list{5})
	for _, c := range []struct {
		e    list
		want int
	}{{nil, 5}, {list{}, 5}, {list{0}, 0}, {list{1}, 0}} {
		if got, _ := number.At(c.e).Small(); got != c.want {
			t.Errorf("At %d of a number: got %d, want %d", c.e, got, c.want)
		}
	}
}

func TestDegrees(t *testing.T) { // P14.2: Deg, In
	xy := func(order int, rows ...list) mpoly.Poly { return made(t, ring(0, order, 2), rows...) }
	for _, order := range orders() {
		cases := []struct {
			a         mpoly.Poly
			deg, x, y int
		}{
			{xy(order), -1, -1, -1}, {xy(order, list{1, 2, 3}, list{-1, 2, 3}), -1, -1, -1}, {xy(order, list{5, 0, 0}), 0, 0, 0}, {xy(order, list{1, 2, 0}, list{1, 0, 3}), 3, 2, 3}, {xy(order, list{1, 2, 2}, list{1, 0, 3}), 4, 2, 3}, {xy(order, list{1, 0, 2}, list{1, 3, 0}), 3, 3, 2},
			{xy(order, list{1, mostExp, mostExp}, list{1, 0, 0}), 2 * mostExp, mostExp, mostExp}, {xy(order, list{1, 0, mostExp}), mostExp, 0, mostExp}, {xy(order, list{3, 5, 5}, list{-3, 5, 5}, list{1, 1, 0}), 1, 1, 0},
		}
		for _, c := range cases {
			if c.a.Deg() != c.deg || c.a.In(0) != c.x || c.a.In(1) != c.y {
				t.Errorf("order %d: %d terms: got the degree %d, In %d and %d, want %d, %d, %d", order, c.a.Len(), c.a.Deg(), c.a.In(0), c.a.In(1), c.deg, c.x, c.y)
			}
			want := 0
			if c.a.Len() == 0 {
				want = -1
			}
			for _, v := range []int{-1, 2, 3, 8, 9, math.MinInt, math.MaxInt} {
				if got := c.a.In(v); got != want {
					t.Errorf("order %d: In of a variable %d that is none: got %d, want %d", order, v, got, want)
				}
			}
		}
	}
	eight := made(t, ring(7, api.GrLex, 8), list{1, 1, 2, 3, 4, 5, 6, 7, 8}, list{1, 8, 7, 6, 5, 4, 3, 2, 2})
	for v, want := range []int{8, 7, 6, 5, 5, 6, 7, 8} {
		if got := eight.In(v); got != want {
			t.Errorf("In of the variable %d of 8: got %d, want %d", v, got, want)
		}
	}
	if got := eight.Deg(); got != 37 {
		t.Errorf("Deg: got %d", got)
	}
}

func TestIs(t *testing.T) { // P14.2
	x := []list{{1, 1, 0}, {2, 0, 1}}
	a := made(t, ring(0, api.Lex, 2), x...)
	same := []mpoly.Poly{a, made(t, ring(0, api.Lex, 2), x...), made(t, ring(0, api.Lex, 2), list{2, 0, 1}, list{1, 1, 0}), made(t, ring(0, api.Lex, 2), list{2, 0, 1}, list{5, 3, 3}, list{1, 1, 0}, list{-5, 3, 3}), made(t, ring(0, api.Lex, 2), list{1, 0, 1}, list{1, 1, 0}, list{1, 0, 1})}
	for i, b := range same {
		if !a.Is(b) || !b.Is(a) {
			t.Errorf("%d: the same polynomial is not told as such", i)
		}
	}
	yx := ring(0, api.Lex, 2)
	yx.Vars = []string{"y", "x"}
	others := []mpoly.Poly{
		{}, made(t, ring(0, api.Lex, 2)), made(t, ring(0, api.GrLex, 2), x...), made(t, ring(7, api.Lex, 2), x...), made(t, yx, x...), made(t, ring(0, api.Lex, 3), list{1, 1, 0, 0}, list{2, 0, 1, 0}),
		made(t, ring(0, api.Lex, 2), list{1, 1, 0}), made(t, ring(0, api.Lex, 2), list{1, 1, 0}, list{3, 0, 1}), made(t, ring(0, api.Lex, 2), list{-1, 1, 0}, list{2, 0, 1}), made(t, ring(0, api.Lex, 2), list{1, 1, 0}, list{2, 0, 2}), made(t, ring(0, api.Lex, 2), list{1, 2, 0}, list{2, 0, 1}), made(t, ring(0, api.Lex, 2), list{1, 1, 0}, list{2, 0, 1}, list{1, 0, 0}),
	}
	for i, b := range others {
		if a.Is(b) || b.Is(a) {
			t.Errorf("%d: another polynomial is told as the same", i)
		}
	}
}

func TestNoughtsAreToldByTheirRings(t *testing.T) { // P14.2
	all := append(rings(), api.Ring{})
	for i, r := range all {
		for j, q := range all {
			a, _ := mpoly.Make(r, nil)
			b, _ := mpoly.Make(q, nil)
			if got := a.Is(b); got != (i == j) {
				t.Errorf("0 of %v and 0 of %v: got %t", r, q, got)
			}
		}
	}
}

func TestTheZeroPoly(t *testing.T) { // its words, P14.2 to P14.4
	var none mpoly.Poly
	if !mpoly.Same(none.Ring(), api.Ring{}) || len(none.Terms()) != 0 || none.Len() != 0 || none.At(nil).Sign() != 0 || none.Deg() != -1 || none.In(0) != -1 || none.In(-1) != -1 || !none.Is(mpoly.Poly{}) {
		t.Errorf("the zero Poly is not 0 of the zero Ring")
	}
	sum, err := none.Add(none)
	wantErr(t, "Add", sum, err, api.OK)
	difference, err := none.Sub(none)
	wantErr(t, "Sub", difference, err, api.OK)
	product, err := none.Mul(none)
	wantErr(t, "Mul", product, err, api.OK)
	wantErr(t, "Neg", none.Neg(), api.OK, api.OK)
	for _, c := range []struct {
		e    list
		want api.Errno
	}{{nil, api.OK}, {list{}, api.OK}, {list{0}, api.ErrArg}, {list{mostExp + 1}, api.ErrArg}} {
		scaled, err := none.Scale(mpoly.Term{E: c.e, C: bigint.Of(3)})
		wantErr(t, "Scale", scaled, err, c.want)
	}
	for n, want := range map[int]api.Errno{0: api.OK, 1: api.OK, mostPower: api.OK, mostPower + 1: api.ErrArg, -1: api.ErrArg} {
		power, err := none.Pow(n)
		wantErr(t, "Pow", power, err, want)
	}
}
