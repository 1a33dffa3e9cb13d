package calc_test

import (
	"math"
	"math/big"
	"slices"
	"strconv"
	"testing"

	"vinculum/api"
	"vinculum/bigint"
	"vinculum/calc"
	"vinculum/mpoly"
)

// at is the value of a polynomial, term by term.
func (a plain) at(l []bigint.Int, r api.Ring) *big.Int {
	var p *big.Int
	if r.P != 0 {
		p = new(big.Int).SetUint64(r.P)
	}
	sum := new(big.Int)
	for e, c := range a {
		z := new(big.Int).Set(c)
		for v, x := range l {
			z.Mul(z, new(big.Int).Exp(toBig(x), big.NewInt(int64(e[v])), p))
		}
		sum.Add(sum, z)
	}
	return modulo(sum, r)
}

func wantValue(t *testing.T, a mpoly.Poly, l []bigint.Int) {
	t.Helper()
	want := plainOf(a.Terms()).at(l, a.Ring())
	if got, err := calc.Eval(a, l); toBig(got).Cmp(want) != 0 || err != api.OK {
		t.Errorf("Eval of %d terms over %v: got a number of %d bits, error %d, want one of %d, or another one", a.Len(), a.Ring(), got.Bits(), int(err), want.BitLen())
	}
}

func wantNoValue(t *testing.T, what string, a mpoly.Poly, l []bigint.Int, want api.Errno) {
	t.Helper()
	if got, err := calc.Eval(a, l); got.Sign() != 0 || err != want {
		t.Errorf("Eval, %s: got a number of %d bits, error %d, want the error %d", what, got.Bits(), int(err), int(want))
	}
}

func TestValueExamples(t *testing.T) { // P15.1
	cases := []struct {
		p    uint64
		of   []list
		at   list
		want string
	}{
		{0, []list{{1, 2, 0}, {1, 0, 1}}, list{3, -1}, "8"}, {0, []list{{1, 2, 0}, {1, 0, 1}}, list{0, 0}, "0"}, {0, []list{{1, 2, 0}, {1, 0, 1}, {5, 0, 0}}, list{0, 0}, "5"}, {0, nil, list{5, 5}, "0"}, {0, []list{{-2, 3, 3}}, list{-2, 5}, "2000"}, {0, []list{{1, 1, 0}, {-1, 0, 1}}, list{7, 7}, "0"},
		{0, []list{{1, 64, 0}}, list{2, 9}, "18446744073709551616"}, {0, []list{{1, 63, 0}}, list{-2, 9}, "-9223372036854775808"}, {0, []list{{3, 0, 0}}, list{math.MinInt, math.MaxInt}, "3"},
		{7, []list{{1, 2, 0}, {1, 0, 1}}, list{3, -4}, "5"}, {7, []list{{1, 1, 0}}, list{-1, 0}, "6"}, {7, []list{{1, 1, 0}}, list{7, 0}, "0"}, {7, []list{{3, 0, 0}}, list{9, 9}, "3"}, {7, []list{{6, 1, 0}, {6, 0, 1}}, list{6, 1}, "0"}, {7, nil, list{1, 1}, "0"}, {7, []list{{1, 6, 0}}, list{3, 0}, "1"}, {7, []list{{1, mostExp, 0}}, list{3, 0}, "4"},
		{2, []list{{1, 1, 0}, {1, 0, 1}, {1, 0, 0}}, list{1, 1}, "1"}, {2, []list{{1, 1, 0}}, list{-3, 0}, "1"}, {2, []list{{1, 1, 0}}, list{2, 1}, "0"},
		{greatest, []list{{1, 1, 0}}, list{-1, 0}, "9223372036854775782"}, {greatest, []list{{-1, 1, 0}}, list{-1, 0}, "1"}, {greatest, []list{{-1, 1, 0}, {-1, 0, 1}}, list{1, 1}, "9223372036854775781"}, {greatest, []list{{1, 2, 0}}, list{math.MaxInt, 0}, "576"}, {greatest, []list{{-1, 0, 0}, {1, 1, 0}}, list{1, 0}, "0"},
	}
	for i, c := range cases {
		for _, order := range orders() {
			got, err := calc.Eval(made(t, ring(c.p, order, 2), c.of...), numbersOf(c.at...))
			if got.Print() != c.want || err != api.OK {
				t.Errorf("%d: got %s, error %d, want %s", i, got.Print(), int(err), c.want)
			}
		}
	}
}

func TestValues(t *testing.T) { // P15.1
	s := source(1)
	for _, r := range rings() {
		for _, a := range samples(t, &s, r) {
			for range 3 {
				wantValue(t, a, s.numbers(len(r.Vars)))
			}
			wantValue(t, a, make([]bigint.Int, len(r.Vars)))
		}
	}
}

func TestValuesWithHighExponents(t *testing.T) { // P15.1: each bit of them counts
	s := source(2)
	for _, vars := range []int{1, 2, 8} {
		for _, p := range []uint64{2, 998244353, greatest} {
			r := ring(p, api.GrLex, vars)
			wantValue(t, s.poly(t, r, 40, mostExp+1), s.numbers(vars))
		}
		r := ring(0, api.GrevLex, vars)
		wantValue(t, s.poly(t, r, 40, 3000), s.numbers(vars))
		wantValue(t, s.poly(t, r, 40, mostBits+1), make([]bigint.Int, vars))
		for bit := 1; bit <= mostBits/2; bit *= 2 {
			l := append(row(1, bit, 5, vars-1, vars), row(1, bit-1, 3, 0, vars)...)
			at := numbersOf(-2, 3, 2, -3, 3, -2, 2, 3)[8-vars:]
			wantValue(t, polyOf(t, r, l), at)
		}
	}
}

func TestValuesOfDensePolynomials(t *testing.T) { // P15.1
	for _, p := range []uint64{0, 7, greatest} {
		r := ring(p, api.Lex, 1)
		a := polyOf(t, r, row(5001, 0, 1, 0, 1))
		got, err := calc.Eval(a, numbersOf(2))
		want := modulo(new(big.Int).Sub(new(big.Int).Lsh(big.NewInt(1), 5001), big.NewInt(1)), r)
		if toBig(got).Cmp(want) != 0 || err != api.OK {
			t.Errorf("modulo %d: 1 + 2 + 4 + ..: got a number of %d bits, error %d", p, got.Bits(), int(err))
		}
	}
}

func TestValuesOfManyTerms(t *testing.T) { // P15.1
	s := source(3)
	for _, p := range []uint64{0, greatest} {
		wantValue(t, s.poly(t, ring(p, api.GrLex, 2), mostTerms, 400), numbersOf(-3, 2))
		wantValue(t, polyOf(t, ring(p, api.Lex, 1), row(mostTerms, 0, -1, 0, 1)), numbersOf(-1))
	}
}

func TestValuesNeedANumberForEachVariable(t *testing.T) { // P15.1: ErrArg, ahead of the limit and of 0 too
	for _, r := range rings() {
		vars := len(r.Vars)
		high := make(list, vars+1)
		for i := range high {
			high[i] = mostExp
		}
		for _, a := range []mpoly.Poly{made(t, r), made(t, r, append(list{1}, make(list, vars)...)), made(t, r, high)} {
			for n := range 11 {
				if n != vars {
					wantNoValue(t, "too many numbers, or too few", a, numbersOf(make(list, n)...), api.ErrArg)
					wantNoValue(t, "too many great numbers, or too few", a, slices.Repeat([]bigint.Int{bitsOf(90000)}, n), api.ErrArg)
				}
			}
		}
	}
}

func TestValuesAreNotTooGreat(t *testing.T) { // P15.1: each variable's In, times its number's Bits
	one := numbersOf(1)[0]
	cases := []struct {
		of   []list
		at   []bigint.Int
		want api.Errno
	}{
		{[]list{{1, 1 << 18, 0}}, []bigint.Int{one, {}}, api.OK}, {[]list{{1, 1<<18 + 1, 0}}, []bigint.Int{one, {}}, api.ErrLimit}, {[]list{{1, 1<<18 + 1, 0}}, []bigint.Int{one.Neg(), {}}, api.ErrLimit}, {[]list{{1, 0, 1<<18 + 1}}, []bigint.Int{{}, one}, api.ErrLimit}, {[]list{{1, 0, 1 << 18}}, []bigint.Int{{}, one.Neg()}, api.OK},
		{[]list{{1, mostExp, mostExp}}, []bigint.Int{{}, {}}, api.OK}, {[]list{{1, mostExp, 1}}, []bigint.Int{{}, bitsOf(mostBits)}, api.OK}, {[]list{{1, 0, 0}}, []bigint.Int{bitsOf(mostBits + 1), bitsOf(mostBits + 1)}, api.OK}, {[]list{{1, 1, 0}}, []bigint.Int{bitsOf(mostBits + 1), {}}, api.ErrLimit}, {[]list{{1, 0, 1}}, []bigint.Int{bitsOf(mostBits + 1), {}}, api.OK},
		{[]list{{1, 0, 1}}, []bigint.Int{{}, bitsOf(mostBits + 1).Neg()}, api.ErrLimit}, {[]list{{1, 4096, 4096}}, []bigint.Int{bitsOf(64), bitsOf(64)}, api.OK}, {[]list{{1, 4096, 4096}}, []bigint.Int{bitsOf(64), bitsOf(65)}, api.ErrLimit}, {[]list{{1, 4097, 4096}}, []bigint.Int{bitsOf(64), bitsOf(64)}, api.ErrLimit}, {[]list{{1, 131072, 0}, {2, 0, 131072}}, numbersOf(3, -2), api.OK}, {[]list{{1, 131073, 0}, {2, 0, 131072}}, numbersOf(3, -2), api.ErrLimit},
		// The greatest exponents may be those of different terms; the first term's are not all that count.
		{[]list{{1, 5, 0}, {1, 4, 4097}}, []bigint.Int{one, bitsOf(64)}, api.ErrLimit}, {[]list{{1, 5, 4096}, {1, 4097, 0}}, []bigint.Int{bitsOf(63), bitsOf(64)}, api.OK},
		{nil, []bigint.Int{bitsOf(mostBits + 1), bitsOf(3 * mostBits)}, api.OK},
	}
	for i, c := range cases {
		for _, order := range orders() {
			a := made(t, ring(0, order, 2), c.of...)
			if c.want == api.OK {
				wantValue(t, a, c.at)
			} else {
				wantNoValue(t, "a power that is too great, "+strconv.Itoa(i), a, c.at, c.want)
			}
			wantValue(t, made(t, ring(greatest, order, 2), c.of...), c.at) // modulo P there is no limit
		}
	}
}

func TestGreatCoefficientsHaveValues(t *testing.T) { // P15.1: the limit is one of powers
	c := bitsOf(2 * mostBits)
	wantValue(t, polyOf(t, ring(0, api.Lex, 1), []mpoly.Term{{E: list{1}, C: c}, {E: list{4096}, C: c.Neg()}}), []bigint.Int{bitsOf(64)})
	wantValue(t, polyOf(t, ring(0, api.Lex, 0), []mpoly.Term{{E: list{}, C: c}}), nil)
}

func TestValuesWithoutVariables(t *testing.T) { // P15.1
	for _, p := range []uint64{0, 7} {
		a := made(t, ring(p, api.Lex, 0), list{5})
		for _, l := range [][]bigint.Int{nil, {}} {
			if got, err := calc.Eval(a, l); got.Print() != "5" || err != api.OK {
				t.Errorf("modulo %d: got %s, error %d", p, got.Print(), int(err))
			}
		}
	}
	wantNoValue(t, "of the zero Poly", mpoly.Poly{}, nil, api.OK)
	wantNoValue(t, "of the zero Poly, with a number", mpoly.Poly{}, numbersOf(1), api.ErrArg)
}

// derived is the derivative, term by term.
func (a plain) derived(v int) plain {
	b := plain{}
	for e, c := range a {
		if n := e[v]; n > 0 {
			e[v]--
			b.put(e, new(big.Int).Mul(c, big.NewInt(int64(n))))
		}
	}
	return b
}

func TestDerivatives(t *testing.T) { // P15.1
	s := source(4)
	for _, r := range rings() {
		all := append(samples(t, &s, r), s.poly(t, r, 20, mostExp+1))
		for _, a := range all {
			for v := range r.Vars {
				got, err := calc.Derive(a, v)
				wantPoly(t, "Derive", r, got, err, plainOf(a.Terms()).derived(v))
			}
		}
	}
}

func TestDerivativeExamples(t *testing.T) { // P15.1
	cases := []struct {
		p        uint64
		v        int
		of, want []list
	}{
		{0, 0, []list{{3, 2, 1}, {5, 2, 0}, {-1, 0, 4}}, []list{{6, 1, 1}, {10, 1, 0}}}, {0, 1, []list{{3, 2, 1}, {5, 2, 0}, {-1, 0, 4}}, []list{{3, 2, 0}, {-4, 0, 3}}}, {0, 0, []list{{7, 0, 5}}, nil}, {0, 1, nil, nil}, {0, 0, []list{{1, mostExp, mostExp}}, []list{{mostExp, mostExp - 1, mostExp}}}, {0, 0, []list{{1, 1, 0}}, []list{{1, 0, 0}}},
		{7, 0, []list{{1, 7, 0}, {1, 8, 0}}, []list{{1, 7, 0}}}, {7, 0, []list{{1, 7, 0}, {3, 14, 1}}, nil}, {2, 1, []list{{1, 1, 2}, {1, 1, 3}, {1, 1, 0}}, []list{{1, 1, 2}}}, {greatest, 0, []list{{-1, 2, 0}}, []list{{-2, 1, 0}}},
	}
	for i, c := range cases {
		for _, order := range orders() {
			r := ring(c.p, order, 2)
			got, err := calc.Derive(made(t, r, c.of...), c.v)
			if !got.Is(made(t, r, c.want...)) || err != api.OK {
				t.Errorf("%d: got %d terms, error %d, want %d, or others", i, got.Len(), int(err), len(c.want))
			}
		}
	}
}

func TestDerivativesByNoVariable(t *testing.T) { // P15.1: ErrArg, of 0 too
	for _, r := range rings() {
		for _, a := range []mpoly.Poly{made(t, r), made(t, r, append(list{1}, make(list, len(r.Vars))...)), {}} {
			for _, v := range wrongPlaces(len(r.Vars)) {
				got, err := calc.Derive(a, v)
				wantErr(t, "Derive by no variable", got, err, api.ErrArg)
			}
		}
	}
	got, err := calc.Derive(mpoly.Poly{}, 0)
	wantErr(t, "Derive of the zero Poly", got, err, api.ErrArg)
}
