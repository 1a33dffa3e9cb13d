package mpoly_test

import (
	"math"
	"slices"
	"testing"

	"vinculum/api"
	"vinculum/bigint"
	"vinculum/mpoly"
)

// row is n terms of x, to the powers from a first one on, each with a coefficient.
func row(n, first, c, vars int) []mpoly.Term {
	l := make([]mpoly.Term, n)
	for i := range l {
		l[i] = mpoly.Term{E: make(list, vars), C: bigint.Of(c)}
		l[i].E[0] = first + i
	}
	return l
}

func wantMakeErr(t *testing.T, what string, r api.Ring, l []mpoly.Term, want api.Errno) {
	t.Helper()
	a, err := mpoly.Make(r, l)
	wantErr(t, "Make of "+what, a, err, want)
}

func TestMakeSums(t *testing.T) { // P14.1
	xy := ring(0, api.Lex, 2)
	cases := []struct{ of, want []list }{
		{[]list{{2, 1, 0}, {3, 0, 0}, {-2, 1, 0}}, []list{{3, 0, 0}}},
		{nil, nil}, {[]list{{0, 5, 5}}, nil}, {[]list{{0, 0, 0}, {0, 1, 1}, {0, 0, 0}}, nil}, {[]list{{1, 2, 3}, {-1, 2, 3}}, nil}, {[]list{{1, 2, 3}, {1, 3, 2}}, []list{{1, 3, 2}, {1, 2, 3}}},
		{[]list{{1, 1, 0}, {1, 1, 0}, {1, 1, 0}}, []list{{3, 1, 0}}}, {[]list{{1, 1, 0}, {-1, 1, 0}, {4, 1, 0}}, []list{{4, 1, 0}}}, {[]list{{math.MaxInt, 1, 0}, {math.MaxInt, 1, 0}, {2, 1, 0}, {-2, 0, 0}, {math.MinInt, 1, 0}, {math.MinInt, 1, 0}}, []list{{-2, 0, 0}}},
		// Exponents that are told apart by their high bits alone, by their low bits alone, and by their places alone.
		{[]list{{1, 1, 0}, {2, 257, 0}, {3, 65537, 0}, {4, mostExp, 0}, {5, 0, 0}, {6, 0, 1}, {7, 0, 257}, {8, 0, 65537}, {9, 256, 0}, {10, 65536, 0}}, []list{{4, mostExp, 0}, {3, 65537, 0}, {10, 65536, 0}, {2, 257, 0}, {9, 256, 0}, {1, 1, 0}, {8, 0, 65537}, {7, 0, 257}, {6, 0, 1}, {5, 0, 0}}},
		{[]list{{1, 11, 1}, {2, 1, 11}, {3, 111, 0}, {4, 0, 111}}, []list{{3, 111, 0}, {1, 11, 1}, {2, 1, 11}, {4, 0, 111}}},
	}
	for i, c := range cases {
		got := made(t, xy, c.of...).Terms()
		same := slices.EqualFunc(got, termsOf(c.want...), func(x, y mpoly.Term) bool { return slices.Equal(x.E, y.E) && x.C.Cmp(y.C) == 0 })
		if !same {
			t.Errorf("%d: got %d terms, want %d, or others", i, len(got), len(c.want))
		}
	}
}

func TestMakeModuloPrimes(t *testing.T) { // P14.1: from 0 to P less 1
	cases := []struct {
		p    uint64
		of   []int
		want string
	}{
		{7, list{-1}, "6"}, {7, list{7}, "0"}, {7, list{14, 1}, "1"}, {7, list{-7}, "0"}, {7, list{6, 6}, "5"}, {7, list{-100}, "5"}, {2, list{1, 1}, "0"}, {2, list{-1}, "1"}, {2, list{-2}, "0"}, {2, list{3, 2}, "1"},
		{greatest, list{-1}, "9223372036854775782"}, {greatest, list{greatest}, "0"}, {greatest, list{greatest - 1, greatest - 1}, "9223372036854775781"}, {greatest, list{math.MaxInt}, "24"}, {greatest, list{math.MinInt}, "9223372036854775758"}, {greatest, list{math.MaxInt, math.MaxInt, math.MaxInt}, "72"},
	}
	for _, c := range cases {
		var l []mpoly.Term
		for _, x := range c.of {
			l = append(l, mpoly.Term{E: list{3}, C: bigint.Of(x)})
		}
		a := polyOf(t, ring(c.p, api.Lex, 1), l)
		many := 1
		if c.want == "0" {
			many = 0
		}
		if got := a.At(list{3}).Print(); got != c.want || a.Len() != many {
			t.Errorf("modulo %d: the sum of %d: got %s, %d terms, want %s", c.p, c.of, got, a.Len(), c.want)
		}
	}
}

func TestMakeChecksTheRing(t *testing.T) { // P14.1: ahead of all else
	bad := []struct {
		r    api.Ring
		want api.Errno
	}{{api.Ring{}, api.ErrArg}, {ring(0, 4, 2), api.ErrArg}, {api.Ring{Vars: make([]string, 9), Order: 1}, api.ErrArg}, {api.Ring{Vars: []string{"x", "x"}, Order: 1}, api.ErrName}, {api.Ring{P: 9, Vars: []string{"_"}, Order: 1}, api.ErrName}, {ring(9, 1, 2), api.ErrPrime}, {ring(1<<63+29, 1, 2), api.ErrPrime}}
	for _, c := range bad {
		for _, l := range [][]mpoly.Term{nil, termsOf(list{1, 0, 0}), termsOf(list{1, -1, 0}), termsOf(list{1, mostExp + 1, 0}), termsOf(list{1, 0}), make([]mpoly.Term, mostTerms+1)} {
			wantMakeErr(t, "a ring that may not be", c.r, l, c.want)
		}
	}
}

func TestMakeChecksExponents(t *testing.T) { // P14.1: the first error there is, also of what is 0
	fine, arg, limit := list{1, 2, 3}, list{1, 2, -1}, list{1, mostExp + 1, 0}
	cases := []struct {
		of   []list
		want api.Errno
	}{
		{[]list{fine, {1, mostExp, mostExp}}, api.OK}, {[]list{arg}, api.ErrArg}, {[]list{limit}, api.ErrLimit}, {[]list{fine, fine, limit}, api.ErrLimit}, {[]list{fine, fine, arg}, api.ErrArg}, {[]list{limit, arg}, api.ErrLimit}, {[]list{fine, limit, fine, arg}, api.ErrLimit}, {[]list{arg, limit}, api.ErrArg},
		{[]list{{1, mostExp + 1, -1}}, api.ErrArg}, {[]list{{1}}, api.ErrArg}, {[]list{{1, 0}}, api.ErrArg}, {[]list{{1, 0, 0, 0}}, api.ErrArg}, {[]list{{1, mostExp + 1}}, api.ErrArg}, {[]list{{1, math.MinInt, 0}}, api.ErrArg}, {[]list{{1, 0, math.MaxInt}}, api.ErrLimit},
		{[]list{{0, -1, 0}}, api.ErrArg}, {[]list{{0, 0, mostExp + 1}}, api.ErrLimit}, {[]list{{0, 1}}, api.ErrArg}, {[]list{{0}}, api.ErrArg}, {[]list{limit, {-1, mostExp + 1, 0}}, api.ErrLimit},
	}
	for _, p := range []uint64{0, 7} {
		for i, c := range cases {
			a, err := mpoly.Make(ring(p, api.GrLex, 2), termsOf(c.of...))
			if c.want == api.OK {
				wantPoly(t, "Make", ring(p, api.GrLex, 2), a, err, plainOf(termsOf(c.of...)))
				continue
			}
			if wantErr(t, "Make", a, err, c.want); err != c.want {
				t.Errorf("this was %d: %d", i, c.of)
			}
		}
	}
}

func TestMakeOfManyTerms(t *testing.T) { // P14.1: the limit is of the list, and stands ahead of what is wrong with exponents
	for _, r := range []api.Ring{ring(0, api.Lex, 1), ring(7, api.GrevLex, 2), ring(2, api.GrLex, 8)} {
		vars := len(r.Vars)
		l := row(mostTerms, 0, 1, vars)
		a, err := mpoly.Make(r, l)
		wantPoly(t, "Make of as many terms as may be", r, a, err, plainOf(l))
		for what, more := range map[string][]mpoly.Term{
			"one too many": row(mostTerms+1, 0, 1, vars), "one too many, all 0": row(mostTerms+1, 0, 0, vars), "too many that are the same": slices.Repeat(row(1, 3, 1, vars), mostTerms+1),
			"one too many, of which none may be": make([]mpoly.Term, mostTerms+1), "one too many, below 0": row(mostTerms+1, -5, 1, vars), "three times as many": row(3*mostTerms, 0, 1, vars),
		} {
			wantMakeErr(t, what, r, more, api.ErrLimit)
		}
		same := slices.Repeat(row(1, 3, 1, vars), mostTerms)
		a, err = mpoly.Make(r, same)
		wantPoly(t, "Make of the same again and again", r, a, err, plainOf(same))
		wantMakeErr(t, "as many as may be, the last one below 0", r, append(row(mostTerms-1, 0, 1, vars), row(1, -1, 1, vars)...), api.ErrArg)
	}
}
