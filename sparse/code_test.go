package sparse_test

import (
	"math"
	"math/big"
	"slices"
	"testing"

	"vinculum/api"
	"vinculum/sparse"
	"vinculum/term"
)

func wantCode(t *testing.T, e list, below, want uint64, wantErr api.Errno) {
	t.Helper()
	if got, err := sparse.Code(e, below); got != want || err != wantErr {
		t.Errorf("Code of %d exponents, %d, below %d: got %d, error %d, want %d, error %d", len(e), short(e), below, got, int(err), want, int(wantErr))
	}
}

func wantExps(t *testing.T, n uint64, vars int, want list, wantErr api.Errno) {
	t.Helper()
	if got, err := sparse.Exps(n, vars); !slices.Equal(got, want) || err != wantErr {
		t.Errorf("Exps of %d, %d variables: got %d, error %d, want %d, error %d", n, vars, got, int(err), want, int(wantErr))
	}
}

func TestCode(t *testing.T) { // P20.1
	for _, c := range []struct {
		e           list
		below, want uint64
	}{
		{list{2, 1}, 13, 12}, {list{2, 1}, math.MaxUint64, 12}, {nil, 2, 1}, {list{}, 2, 1}, {list{0}, 2, 1}, {make(list, 8), 2, 1}, {list{1}, 3, 2}, {list{1, 1, 1, 1, 1, 1, 1, 1}, 9699691, 9699690}, {list{0, 0, 0, 0, 0, 0, 0, 1}, 20, 19}, {list{0, 0, 2, 1}, 176, 175}, {list{0, 0, 0, 0, 1, 1, 1}, 2432, 2431},
		// The greatest codes that are words.
		{list{62}, 1 << 63, 1 << 62}, {list{63}, 1<<63 + 1, 1 << 63}, {list{63}, math.MaxUint64, 1 << 63}, {list{0, 40}, math.MaxUint64, 12157665459056928801}, {list{0, 40}, 12157665459056928802, 12157665459056928801}, {list{0, 0, 0, 0, 0, 0, 0, 15}, math.MaxUint64, 15181127029874798299}, {list{1, 0, 0, 22}, math.MaxUint64, 7819642097165976098},
	} {
		wantCode(t, c.e, c.below, c.want, api.OK)
	}
}

func TestCodesThatAreNotBelow(t *testing.T) { // P20.1
	for _, c := range []struct {
		e     list
		below uint64
	}{
		{list{2, 1}, 12}, {list{2, 1}, 11}, {list{2, 1}, 6}, {list{2, 1}, 1}, {list{2, 1}, 0}, {nil, 1}, {nil, 0}, {make(list, 8), 1}, {make(list, 8), 0}, {list{1}, 2}, {list{0, 0, 0, 0, 0, 0, 0, 1}, 19}, {list{63}, 1 << 63}, {list{0, 40}, 12157665459056928801},
		// These are no words: what is left of them would be below.
		{list{64}, math.MaxUint64}, {list{65}, math.MaxUint64}, {list{128}, 2}, {list{0, 41}, math.MaxUint64}, {list{0, 0, 28}, math.MaxUint64}, {list{62, 2}, math.MaxUint64}, {list{0, 0, 0, 0, 0, 0, 0, 16}, math.MaxUint64}, {list{63, 0, 0, 0, 0, 0, 0, 1}, math.MaxUint64}, {list{mostExp}, math.MaxUint64}, {list{0, 0, 0, 0, 0, 0, 0, mostExp}, math.MaxUint64}, {list{mostExp, mostExp, mostExp, mostExp, mostExp, mostExp, mostExp, mostExp}, math.MaxUint64},
	} {
		wantCode(t, c.e, c.below, 0, api.ErrLimit)
	}
}

func TestExponentsThatMayNotBe(t *testing.T) { // P20.1: ahead of the code's limit
	for _, below := range []uint64{0, 1, 2, 13, 1 << 63, math.MaxUint64} {
		for _, e := range []list{{-1}, {math.MinInt}, {0, -1}, {2, 1, -1}, {-1, mostExp + 1}, {mostExp + 1, -1}, {math.MaxInt, math.MinInt}, {0, 0, 0, 0, 0, 0, 0, -1}, make(list, 9), make(list, 1000), {0, 0, 0, 0, 0, 0, 0, 0, mostExp + 1}, {mostExp + 1, 0, 0, 0, 0, 0, 0, 0, 0}} {
			wantCode(t, e, below, 0, api.ErrArg)
		}
		for _, e := range []list{{mostExp + 1}, {math.MaxInt}, {0, mostExp + 1}, {0, 0, 0, 0, 0, 0, 0, math.MaxInt}} {
			wantCode(t, e, below, 0, api.ErrLimit)
		}
	}
}

func TestCodeErrorsAreThoseOfTerm(t *testing.T) { // P20.1
	s := source(11)
	some := list{math.MinInt, -1, 0, 0, 0, 0, 0, 0, 1, 2, mostExp, mostExp + 1, math.MaxInt}
	found := map[api.Errno]int{}
	for range 5000 {
		e := make(list, s.below(11))
		for v := range e {
			e[v] = some[s.below(len(some))]
		}
		want := term.Check(e, len(e))
		if found[want]++; want != api.OK {
			wantCode(t, e, math.MaxUint64, 0, want)
		} else if _, err := sparse.Code(e, math.MaxUint64); err != api.OK && !slices.Contains(e, mostExp) {
			t.Errorf("Code of %d: error %d", e, int(err))
		}
	}
	if found[api.OK] < 100 || found[api.ErrArg] < 100 || found[api.ErrLimit] < 100 {
		t.Errorf("too few of each: %v", found)
	}
}

// bigCode is a code, however great it is.
func bigCode(e list) *big.Int {
	code := big.NewInt(1)
	for v, n := range e {
		prime := new(big.Int).SetUint64(first()[v])
		code.Mul(code, prime.Exp(prime, big.NewInt(int64(n)), nil))
	}
	return code
}

func TestCodeByGreatNumbers(t *testing.T) { // P20.1: just below and just not below, and products that are no words
	s := source(12)
	words, others := 0, 0
	for range 4000 {
		e := s.exponents(s.below(mostVars+1), 1+s.below(12))
		code := bigCode(e)
		if !code.IsUint64() {
			wantCode(t, e, math.MaxUint64, 0, api.ErrLimit)
			others++
			continue
		}
		n := code.Uint64()
		wantCode(t, e, n, 0, api.ErrLimit)
		wantCode(t, e, n-1, 0, api.ErrLimit)
		wantCode(t, e, n/2, 0, api.ErrLimit)
		if n < math.MaxUint64 {
			wantCode(t, e, n+1, n, api.OK)
			wantCode(t, e, math.MaxUint64, n, api.OK)
		}
		words++
	}
	if words < 500 || others < 500 {
		t.Errorf("too few of each: %d, %d", words, others)
	}
}

func TestExps(t *testing.T) { // P20.1
	for _, c := range []struct {
		n    uint64
		want list
	}{
		{12, list{2, 1}}, {10, list{1, 0, 1}}, {1, nil}, {1, list{0}}, {1, make(list, 8)}, {2, list{1}}, {1 << 63, list{63}}, {1 << 63, list{63, 0, 0, 0, 0, 0, 0, 0}}, {12157665459056928801, list{0, 40}}, {19, list{0, 0, 0, 0, 0, 0, 0, 1}}, {9699690, list{1, 1, 1, 1, 1, 1, 1, 1}}, {15181127029874798299, list{0, 0, 0, 0, 0, 0, 0, 15}}, {175, list{0, 0, 2, 1}}, {2431, list{0, 0, 0, 0, 1, 1, 1}},
	} {
		wantExps(t, c.n, len(c.want), c.want, api.OK)
	}
}

func TestNumbersThatAreNoCodes(t *testing.T) { // P20.1
	for _, c := range []struct {
		n    uint64
		vars int
	}{
		{10, 2}, {2, 0}, {19, 7}, {23, 8}, {46, 8}, {23 * 23, 8}, {23 * 29, 8}, {1 << 63, 0}, {math.MaxUint64, 8}, {math.MaxUint64, 0}, {3, 1}, {6, 1}, {15, 2}, {9699690, 7}, {9699690 * 23, 8}, {greatest, 8}, {1<<63 + 29, 8}, {(1<<32 - 5) * 2, 8},
	} {
		wantExps(t, c.n, c.vars, nil, api.ErrInexact)
	}
}

func TestExpsErrors(t *testing.T) { // P20.1: ErrArg is ahead of ErrInexact
	for _, vars := range []int{-1, -8, 9, 10, 1000, math.MinInt, math.MaxInt} {
		for _, n := range []uint64{0, 1, 2, 12, 23, math.MaxUint64} {
			wantExps(t, n, vars, nil, api.ErrArg)
		}
	}
	for vars := range mostVars + 1 {
		wantExps(t, 0, vars, nil, api.ErrArg)
	}
}

// expsOf is the exponents of a number by its divisors, and whether it is a code.
func expsOf(n uint64, vars int) (list, bool) {
	e := make(list, vars)
	for q := uint64(2); n > 1; q++ {
		for n%q == 0 {
			v := slices.Index(first()[:vars], q)
			if v < 0 {
				return nil, false
			}
			e[v]++
			n /= q
		}
	}
	return e, true
}

func TestExpsOfAllSmallNumbers(t *testing.T) { // P20.1
	for n := uint64(1); n <= 5000; n++ {
		for vars := range mostVars + 1 {
			if e, is := expsOf(n, vars); is {
				wantExps(t, n, vars, e, api.OK)
			} else {
				wantExps(t, n, vars, nil, api.ErrInexact)
			}
		}
	}
}

func TestCodesAndExps(t *testing.T) { // P20.1: each tells what the other one is of
	s := source(13)
	for range 3000 {
		e := s.exponents(s.below(mostVars+1), 1+s.below(8))
		if n, err := sparse.Code(e, math.MaxUint64); err == api.OK {
			wantExps(t, n, len(e), e, api.OK)
			if n < math.MaxUint64/23 {
				wantExps(t, n*23, len(e), nil, api.ErrInexact)
			}
		}
	}
	for n := uint64(1); n < 3000; n++ {
		for vars := range mostVars + 1 {
			if e, err := sparse.Exps(n, vars); err == api.OK {
				wantCode(t, e, n+1, n, api.OK)
			}
		}
	}
}
