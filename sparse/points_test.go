package sparse_test

import (
	"math"
	"math/big"
	"slices"
	"testing"

	"vinculum/api"
	"vinculum/bigint"
	"vinculum/calc"
	"vinculum/mpoly"
	"vinculum/sparse"
)

func wantPoints(t *testing.T, p uint64, vars, many int, want []row) {
	t.Helper()
	if got, err := sparse.Points(p, vars, many); !slices.EqualFunc(got, want, slices.Equal) || err != api.OK {
		t.Errorf("Points modulo %d of %d variables, %d: got %d, error %d, want %d", p, vars, many, short(got), int(err), short(want))
	}
}

func TestPoints(t *testing.T) { // P20.2
	wantPoints(t, 7, 2, 4, []row{{1, 1}, {2, 3}, {4, 2}, {1, 6}})
	wantPoints(t, 97, 8, 2, []row{{1, 1, 1, 1, 1, 1, 1, 1}, first()})
	wantPoints(t, 2, 8, 3, []row{{1, 1, 1, 1, 1, 1, 1, 1}, {0, 1, 1, 1, 1, 1, 1, 1}, {0, 1, 1, 1, 1, 1, 1, 1}})
	wantPoints(t, 19, 8, 3, []row{{1, 1, 1, 1, 1, 1, 1, 1}, {2, 3, 5, 7, 11, 13, 17, 0}, {4, 9, 6, 11, 7, 17, 4, 0}})
	wantPoints(t, greatest, 1, 64, []row{{1}, {2}, {4}, {8}, {16}, {32}, {64}, {128}, {256}, {512}, {1 << 10}, {1 << 11}, {1 << 12}, {1 << 13}, {1 << 14}, {1 << 15}, {1 << 16}, {1 << 17}, {1 << 18}, {1 << 19}, {1 << 20}, {1 << 21}, {1 << 22}, {1 << 23}, {1 << 24}, {1 << 25}, {1 << 26}, {1 << 27}, {1 << 28}, {1 << 29}, {1 << 30}, {1 << 31}, {1 << 32}, {1 << 33}, {1 << 34}, {1 << 35}, {1 << 36}, {1 << 37}, {1 << 38}, {1 << 39}, {1 << 40}, {1 << 41}, {1 << 42}, {1 << 43}, {1 << 44}, {1 << 45}, {1 << 46}, {1 << 47}, {1 << 48}, {1 << 49}, {1 << 50}, {1 << 51}, {1 << 52}, {1 << 53}, {1 << 54}, {1 << 55}, {1 << 56}, {1 << 57}, {1 << 58}, {1 << 59}, {1 << 60}, {1 << 61}, {1 << 62}, {25}})
	for _, p := range primes() {
		wantPoints(t, p, 0, 3, []row{nil, nil, nil})
		for vars := range mostVars + 1 {
			wantPoints(t, p, vars, 0, nil)
		}
	}
}

// bigPoints are so many points, by great numbers.
func bigPoints(p uint64, vars, many int) []row {
	points := make([]row, many)
	for i := range points {
		for _, q := range first()[:vars] {
			x := new(big.Int).Exp(new(big.Int).SetUint64(q), big.NewInt(int64(i)), new(big.Int).SetUint64(p))
			points[i] = append(points[i], x.Uint64())
		}
	}
	return points
}

func TestPointsByGreatNumbers(t *testing.T) { // P20.2
	for _, p := range primes() {
		for vars := range mostVars + 1 {
			for _, many := range []int{1, 2, 7, 70} {
				wantPoints(t, p, vars, many, bigPoints(p, vars, many))
			}
		}
		wantPoints(t, p, mostVars, mostPoints, bigPoints(p, mostVars, mostPoints))
	}
}

func TestPointsErrors(t *testing.T) { // P20.2: ErrPrime is ahead of ErrArg
	vars, many := list{-1, 9, 100, math.MinInt, math.MaxInt}, list{-1, mostPoints + 1, math.MinInt, math.MaxInt}
	want := func(p uint64, vars, many int, want api.Errno) {
		t.Helper()
		if got, err := sparse.Points(p, vars, many); got != nil || err != want {
			t.Errorf("Points modulo %d of %d variables, %d: got %d, error %d, want the error %d", p, vars, many, short(got), int(err), int(want))
		}
	}
	for _, p := range []uint64{0, 1, 4, 8, 9, 91, 561, 65536, greatest - 2, greatest + 2, 1<<63 - 1, 1 << 63, 1<<63 + 29, math.MaxUint64 - 58, math.MaxUint64} {
		for _, v := range append(list{0, 2, 8}, vars...) {
			for _, m := range append(list{0, 4, mostPoints}, many...) {
				want(p, v, m, api.ErrPrime)
			}
		}
	}
	for _, p := range primes() {
		for _, v := range append(list{0, 2, 8}, vars...) {
			for _, m := range many {
				want(p, v, m, api.ErrArg)
			}
		}
		for _, v := range vars {
			for _, m := range []int{0, 4, mostPoints} {
				want(p, v, m, api.ErrArg)
			}
		}
	}
}

func wantAsk(t *testing.T, a mpoly.Poly, want row) {
	t.Helper()
	if got, err := sparse.Ask(a, len(want)); !slices.Equal(got, want) || err != api.OK {
		t.Errorf("Ask over %v of %d terms, %d: got %d, error %d, want %d", a.Ring(), a.Len(), len(want), short(got), int(err), short(want))
	}
}

func TestAsk(t *testing.T) { // P20.2
	wantAsk(t, made(t, ring(97, 1, 2), list{3, 1, 0}, list{1, 0, 1}), row{4, 9, 21, 51})
	wantAsk(t, made(t, ring(97, 1, 2)), row{0, 0, 0, 0, 0})
	wantAsk(t, made(t, ring(97, 1, 2), list{-1, 0, 0}), row{96, 96, 96})
	wantAsk(t, made(t, ring(97, 1, 0), list{5}), row{5, 5, 5})
	wantAsk(t, made(t, ring(97, 1, 2), list{3, 1, 0}, list{1, 0, 1}), nil)
	wantAsk(t, made(t, ring(7, 1, 8), list{1, 0, 0, 0, 0, 0, 0, 0, 1}), row{1, 5, 4, 6, 2, 3, 1})
	// Where p is a variable's prime, that is 0 at all points but the first one, and its 0th power is 1 there too.
	wantAsk(t, made(t, ring(2, 1, 2), list{1, 1, 0}, list{1, 0, 1}), row{0, 1, 1})
	wantAsk(t, made(t, ring(3, 1, 2), list{1, 0, 5}, list{1, 1, 0}), row{2, 2, 1, 2})
	wantAsk(t, made(t, ring(3, 1, 2), list{2, 0, 0}, list{1, 0, mostExp}), row{0, 2, 2, 2})
	wantAsk(t, made(t, ring(greatest, 1, 1), list{-1, 62}), row{greatest - 1, greatest - 1<<62, greatest - 1<<61 - 150})
}

// plainAsk is a's value at each of the Points, as calc tells it.
func plainAsk(t *testing.T, a mpoly.Poly, many int) row {
	t.Helper()
	points, err := sparse.Points(a.Ring().P, len(a.Ring().Vars), many)
	if err != api.OK {
		t.Fatalf("Points: error %d", int(err))
	}
	var l row
	for _, point := range points {
		at := make([]bigint.Int, len(point))
		for v, x := range point {
			at[v] = number(x)
		}
		y, err := calc.Eval(a, at)
		w, _ := y.Mod(a.Ring().P)
		if err != api.OK || number(w).Cmp(y) != 0 {
			t.Fatalf("Eval: error %d", int(err))
		}
		l = append(l, w)
	}
	return l
}

func TestAskIsTheValuesAtThePoints(t *testing.T) { // P20.2: of exponents up to the greatest
	s := source(21)
	for _, r := range rings() {
		for _, n := range []int{0, 1, 2, 5, 30} {
			for _, below := range []int{1, 3, 60, mostExp + 1} {
				a := s.poly(t, r, n, below)
				many := 1 + s.below(20)
				want := valuesOf(a, many)
				if other := plainAsk(t, a, many); !slices.Equal(other, want) {
					t.Fatalf("over %v: the values are %d, and %d", r, want, other)
				}
				wantAsk(t, a, want)
			}
		}
	}
}

func TestAskAtTheLimits(t *testing.T) { // P20.2
	s := source(22)
	for _, p := range []uint64{2, 97, greatest} {
		a := s.poly(t, ring(p, api.GrLex, 3), 20, mostExp+1)
		wantAsk(t, a, valuesOf(a, mostPoints))
	}
	// As many terms as may be: each stands at a power of x, and x is the ith power of 2.
	var l []mpoly.Term
	for n := range api.MaxTerms {
		l = append(l, mpoly.Term{E: list{n}, C: bigint.Of(1)})
	}
	want := row{api.MaxTerms % 97}
	for i := range uint64(20) {
		x, sum := power(2, i+1, 97), uint64(0)
		for n := range uint64(api.MaxTerms) {
			sum += power(x, n%96, 97)
		}
		want = append(want, sum%97)
	}
	wantAsk(t, polyOf(t, ring(97, api.Lex, 1), l), want)
}

func TestAskErrors(t *testing.T) { // P20.2
	few := list{math.MinInt, -1, mostPoints + 1, 1 << 40, math.MaxInt}
	want := func(a mpoly.Poly, many int) {
		t.Helper()
		if got, err := sparse.Ask(a, many); got != nil || err != api.ErrArg {
			t.Errorf("Ask over %v, %d: got %d, error %d", a.Ring(), many, short(got), int(err))
		}
	}
	integers := []mpoly.Poly{{}, made(t, ring(0, 1, 2)), made(t, ring(0, 2, 2), list{3, 1, 0}), made(t, ring(0, 3, 0), list{3})}
	for _, many := range append(list{0, 1, 4, mostPoints}, few...) {
		for _, a := range integers {
			want(a, many)
		}
	}
	for _, r := range rings() {
		s := source(23)
		for _, many := range few {
			want(s.poly(t, r, 5, 9), many)
			want(made(t, r), many)
		}
	}
}
