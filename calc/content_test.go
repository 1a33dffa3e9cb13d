package calc_test

import (
	"math"
	"math/big"
	"testing"

	"vinculum/api"
	"vinculum/bigint"
	"vinculum/calc"
	"vinculum/mpoly"
)

func TestContentExamples(t *testing.T) { // P15.3
	cases := []struct {
		p       uint64
		of      []list
		content string
		want    []list
	}{
		{0, []list{{-4, 1, 0}, {6, 0, 0}}, "2", []list{{2, 1, 0}, {-3, 0, 0}}}, {0, nil, "0", nil}, {0, []list{{-5, 0, 3}}, "5", []list{{1, 0, 3}}}, {0, []list{{5, 0, 3}}, "5", []list{{1, 0, 3}}}, {0, []list{{1, 1, 0}, {100, 0, 0}}, "1", []list{{1, 1, 0}, {100, 0, 0}}}, {0, []list{{-1, 1, 0}, {100, 0, 0}}, "1", []list{{1, 1, 0}, {-100, 0, 0}}}, {0, []list{{6, 2, 0}, {10, 1, 0}, {15, 0, 0}}, "1", []list{{6, 2, 0}, {10, 1, 0}, {15, 0, 0}}}, {0, []list{{-6, 2, 0}, {-12, 1, 0}, {-18, 0, 0}}, "6", []list{{1, 2, 0}, {2, 1, 0}, {3, 0, 0}}},
		{0, []list{{6, 2, 0}, {-12, 1, 0}}, "6", []list{{1, 2, 0}, {-2, 1, 0}}}, {0, []list{{12, 0, 0}}, "12", []list{{1, 0, 0}}}, {0, []list{{-1, 0, 0}}, "1", []list{{1, 0, 0}}}, {0, []list{{math.MinInt, 1, 0}}, "9223372036854775808", []list{{1, 1, 0}}},
		{7, []list{{3, 1, 0}, {6, 0, 0}}, "1", []list{{1, 1, 0}, {2, 0, 0}}}, {7, nil, "0", nil}, {7, []list{{6, 0, 0}}, "1", []list{{1, 0, 0}}}, {7, []list{{1, 1, 0}, {5, 0, 0}}, "1", []list{{1, 1, 0}, {5, 0, 0}}}, {7, []list{{4, 1, 0}, {4, 0, 0}}, "1", []list{{1, 1, 0}, {1, 0, 0}}},
		{2, []list{{1, 1, 0}}, "1", []list{{1, 1, 0}}}, {2, []list{{1, 1, 0}, {1, 0, 0}}, "1", []list{{1, 1, 0}, {1, 0, 0}}}, {2, nil, "0", nil}, {3, []list{{2, 1, 0}, {1, 0, 0}}, "1", []list{{1, 1, 0}, {2, 0, 0}}},
		{greatest, []list{{-1, 1, 0}, {1, 0, 0}}, "1", []list{{1, 1, 0}, {-1, 0, 0}}}, {greatest, []list{{2, 1, 0}, {1, 0, 0}}, "1", []list{{1, 1, 0}, {greatest/2 + 1, 0, 0}}},
	}
	for i, c := range cases {
		for _, order := range orders() {
			r := ring(c.p, order, 2)
			a := made(t, r, c.of...)
			if got := calc.Content(a); got.Print() != c.content {
				t.Errorf("%d: Content: got %s, want %s", i, got.Print(), c.content)
			}
			if got := calc.Primitive(a); !got.Is(made(t, r, c.want...)) {
				t.Errorf("%d: Primitive: got %d terms, want %d, or others", i, got.Len(), len(c.want))
			}
		}
	}
}

func TestPrimitiveGoesByTheOrder(t *testing.T) { // P15.3: what the first coefficient is hangs on it
	rows := []list{{-2, 1, 0, 1}, {4, 0, 2, 0}}
	for order, want := range map[int][]list{api.Lex: {{1, 1, 0, 1}, {-2, 0, 2, 0}}, api.GrLex: {{1, 1, 0, 1}, {-2, 0, 2, 0}}, api.GrevLex: {{-1, 1, 0, 1}, {2, 0, 2, 0}}} {
		r := ring(0, order, 3)
		wantSame(t, "Primitive", calc.Primitive(made(t, r, rows...)), made(t, r, want...))
	}
	for order, want := range map[int][]list{api.Lex: {{1, 1, 0, 1}, {5, 0, 2, 0}}, api.GrLex: {{1, 1, 0, 1}, {5, 0, 2, 0}}, api.GrevLex: {{3, 1, 0, 1}, {1, 0, 2, 0}}} {
		r := ring(7, order, 3)
		wantSame(t, "Primitive modulo 7", calc.Primitive(made(t, r, rows...)), made(t, r, want...))
	}
}

// content is the greatest number that divides all.
func (a plain) content() *big.Int {
	all := new(big.Int)
	for _, c := range a {
		all.GCD(nil, nil, all, new(big.Int).Abs(c))
	}
	return all
}

func TestContents(t *testing.T) { // P15.3
	s := source(31)
	for _, r := range rings() {
		for _, a := range samples(t, &s, r) {
			by, _ := a.Scale(mpoly.Term{E: make(list, len(r.Vars)), C: s.number()})
			for _, b := range []mpoly.Poly{a, by, a.Neg()} {
				wantPrimitive(t, b)
			}
		}
	}
}

// wantPrimitive holds a polynomial's content, and what it is divided by it, against the words of the promise.
func wantPrimitive(t *testing.T, a mpoly.Poly) {
	t.Helper()
	r, x := a.Ring(), plainOf(a.Terms())
	want := x.content()
	if r.P != 0 {
		want = big.NewInt(int64(min(1, a.Len())))
	}
	if got := calc.Content(a); toBig(got).Cmp(want) != 0 {
		t.Errorf("Content of %d terms over %v: got %s, want %v", a.Len(), r, got.Print(), want)
	}
	b := calc.Primitive(a)
	if a.Len() == 0 {
		wantPoly(t, "Primitive of 0", r, b, api.OK, plain{})
		return
	}
	first := toBig(a.Terms()[0].C)
	factor := first // modulo P
	if r.P == 0 {
		factor = new(big.Int).Mul(want, big.NewInt(int64(first.Sign())))
	}
	// So it is divided, as what it is divided by is not 0.
	wantPoly(t, "Primitive, times what it was divided by", r, a, api.OK, plainOf(b.Terms()).times(plain{exponents{}: factor}))
	if !mpoly.Same(b.Ring(), r) || b.Len() != a.Len() || b.Terms()[0].C.Sign() <= 0 || r.P != 0 && b.Terms()[0].C.Print() != "1" {
		t.Errorf("Primitive of %d terms over %v: the ring is %v, the first coefficient %s", a.Len(), r, b.Ring(), b.Terms()[0].C.Print())
	}
}

func TestContentsOfGreatNumbers(t *testing.T) { // P15.3
	s := source(32)
	for _, bits := range []int{1, 64, 65, 1000, 20000} {
		by := bitsOf(bits).Add(bigint.Of(1))
		for _, sign := range []bigint.Int{by, by.Neg()} {
			a, _ := s.poly(t, ring(0, api.GrLex, 2), 12, 4).Scale(mpoly.Term{E: list{1, 2}, C: sign})
			wantPrimitive(t, a)
			if _, left, _ := calc.Content(a).QuoRem(by); left.Sign() != 0 {
				t.Errorf("a factor of %d bits is not in the content", bits)
			}
		}
	}
}

func TestContentsOfManyTerms(t *testing.T) { // P15.3: all coefficients count, also the last one
	for _, p := range []uint64{0, 7} {
		r := ring(p, api.Lex, 1)
		l := row(mostTerms, 0, -12, 0, 1)
		wantPrimitive(t, polyOf(t, r, l))
		for _, c := range []struct{ at, c int }{{0, 4}, {mostTerms - 1, 18}, {500, 5}} {
			l[c.at].C = bigint.Of(c.c)
			wantPrimitive(t, polyOf(t, r, l))
		}
	}
}

func TestInversesOfAllCoefficients(t *testing.T) { // P15.3: a first coefficient may be any number but 0
	for _, p := range []uint64{2, 3, 5, 7, 31, 257} {
		for c := 1; c < int(p); c++ {
			wantPrimitive(t, made(t, ring(p, api.Lex, 1), list{c, 3}, list{1, 1}, list{c + 1, 0}))
		}
	}
}

func TestContentOfTheZeroPoly(t *testing.T) { // P15.3
	if got := calc.Content(mpoly.Poly{}); got.Sign() != 0 {
		t.Errorf("Content: got %s", got.Print())
	}
	wantErr(t, "Primitive", calc.Primitive(mpoly.Poly{}), api.OK, api.OK)
}
