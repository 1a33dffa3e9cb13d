package sparse_test

import (
	"math"
	"slices"
	"testing"

	"vinculum/api"
	"vinculum/mpoly"
	"vinculum/recur"
	"vinculum/sparse"
)

func wantFind(t *testing.T, r api.Ring, values, seeds row, want mpoly.Poly) {
	t.Helper()
	got, err := sparse.Find(r, values, seeds)
	if err != api.OK || !got.Is(want) {
		t.Errorf("Find over %v of %d values, %d, by %d seeds: got %d terms, error %d, want %d", r, len(values), short(values), len(seeds), got.Len(), int(err), want.Len())
	}
}

func wantFindErr(t *testing.T, r api.Ring, values, seeds row, want api.Errno) {
	t.Helper()
	got, err := sparse.Find(r, values, seeds)
	if err != want || !got.Is(mpoly.Poly{}) {
		t.Errorf("Find over %v of %d values, %d, by %d seeds: got %d terms of %v, error %d, want the error %d", r, len(values), short(values), len(seeds), got.Len(), got.Ring(), int(err), int(want))
	}
}

func TestFind(t *testing.T) { // P20.3
	r := ring(97, api.Lex, 2)
	a := made(t, r, list{3, 1, 0}, list{1, 0, 1})
	wantFind(t, r, row{4, 9, 21, 51}, seeds(), a)
	wantFind(t, r, row{4 + 97, 9 + 2*97, 21, 51 + 97}, seeds(), a)
	wantFind(t, r, nil, nil, made(t, r))
	wantFind(t, r, row{0, 0}, nil, made(t, r))
	wantFind(t, r, row{97, 194, 0, 97}, nil, made(t, r))
	wantFind(t, r, make(row, mostPoints), nil, made(t, r))
	wantFind(t, r, row{5, 5}, nil, made(t, r, list{5, 0, 0}))
	wantFind(t, r, row{4, 24}, nil, made(t, r, list{4, 1, 1}))
	wantFind(t, r, row{96, 1}, nil, made(t, r, list{-1, 5, 1})) // 96 is 2 to the 5th times 3
	wantFind(t, ring(97, api.Lex, 0), row{5, 5, 5, 5}, nil, made(t, ring(97, api.Lex, 0), list{5}))
	wantFind(t, ring(2, api.Lex, 1), row{1, 1}, nil, made(t, ring(2, api.Lex, 1), list{1, 0}))
	wantFind(t, ring(greatest, api.Lex, 8), row{1, 19}, nil, made(t, ring(greatest, api.Lex, 8), list{1, 0, 0, 0, 0, 0, 0, 0, 1}))
	wantFind(t, ring(greatest, api.Lex, 1), row{greatest - 1, greatest - 1<<62}, nil, made(t, ring(greatest, api.Lex, 1), list{-1, 62}))
}

func TestFindOfRingsThatMayNotBe(t *testing.T) { // P20.3: ahead of all else
	rings := map[api.Errno][]api.Ring{
		api.ErrArg:   {{}, {P: 97}, {P: 97, Vars: names(2), Order: 4}, {P: 97, Vars: names(2), Order: -1}, {P: 97, Vars: make([]string, 9), Order: 1}, {P: 9, Vars: []string{""}, Order: 0}},
		api.ErrName:  {{P: 97, Vars: []string{"x", "x"}, Order: 1}, {P: 97, Vars: []string{""}, Order: 1}, {P: 9, Vars: []string{"1x"}, Order: 1}, {P: 0, Vars: []string{"x", "_"}, Order: 3}},
		api.ErrPrime: {ring(1, 1, 2), ring(9, 2, 2), ring(1<<63+29, 1, 2), ring(1<<63, 1, 2), ring(math.MaxUint64, 3, 0)},
	}
	for want, all := range rings {
		for _, r := range all {
			for _, n := range []int{0, 1, 2, 4, mostPoints, mostPoints + 1, mostPoints + 2} {
				wantFindErr(t, r, make(row, n), nil, want)
				wantFindErr(t, r, append(make(row, n), 1), seeds(), want)
			}
		}
	}
}

func TestFindOfWrongNumbersOfValues(t *testing.T) { // P20.3
	s := source(31)
	for _, n := range []int{0, 1, 2, 3, 4, 999, 1000, 1001, 1002, 5000} {
		for vars := range 3 {
			wantFindErr(t, ring(0, api.Lex, vars), s.words(n), seeds(), api.ErrArg)
			wantFindErr(t, ring(0, api.Lex, vars), make(row, n), nil, api.ErrArg)
		}
	}
	for _, p := range primes() {
		r := ring(p, api.GrLex, 2)
		for _, n := range []int{1, 3, 5, 99, 999, 1001, 1003, 100001} {
			wantFindErr(t, r, s.words(n), seeds(), api.ErrArg)
			wantFindErr(t, r, make(row, n), nil, api.ErrArg)
		}
		for _, n := range []int{1002, 1004, 2000, 100000} {
			wantFindErr(t, r, s.words(n), seeds(), api.ErrLimit)
			wantFindErr(t, r, make(row, n), nil, api.ErrLimit)
		}
	}
}

func TestFindOfTooFewValues(t *testing.T) { // P20.3: twice the rule's numbers are more
	r := ring(97, api.Lex, 2)
	for _, values := range []row{{0, 1}, {0, 97, 0, 98}, {0, 0, 1, 0}, {0, 0, 1, 5}, {1, 1, 1, 2}, {1, 0, 0, 1}, {0, 0, 0, 0, 0, 1}, append(make(row, mostPoints-1), 1), append(make(row, mostPoints/2), slices.Repeat(row{1}, mostPoints/2)...)} {
		wantFindErr(t, r, values, nil, api.ErrInexact)
		wantFindErr(t, r, values, seeds(), api.ErrInexact)
	}
}

// sums are n numbers: each the powers of some roots there, times factors.
func sums(p uint64, roots, factors row, n int) row {
	l := make(row, n)
	for place := range l {
		for i, x := range roots {
			l[place] = plus(l[place], times(factors[i], power(x, uint64(place), p), p), p)
		}
	}
	return l
}

// on is a row that begins with numbers, and goes on by a rule.
func on(t *testing.T, p uint64, rule recur.Rule, l row, many int) row {
	t.Helper()
	longer, err := recur.More(p, rule, l, many)
	if err != api.OK {
		t.Fatalf("More: error %d", int(err))
	}
	return longer
}

func TestFindOfOtherRoots(t *testing.T) { // P20.3: the first root, rising, that is no code
	r := ring(97, api.Lex, 2)
	for _, c := range []struct {
		roots row
		vars  int
		want  api.Errno
	}{
		{row{0}, 2, api.ErrArg}, {row{0, 1}, 2, api.ErrArg}, {row{23, 0}, 2, api.ErrArg}, {row{5, 0, 1}, 2, api.ErrArg}, {row{0}, 0, api.ErrArg}, {row{0, 2}, 8, api.ErrArg},
		{row{23}, 2, api.ErrInexact}, {row{5}, 2, api.ErrInexact}, {row{1, 2, 5}, 2, api.ErrInexact}, {row{96, 95}, 2, api.ErrInexact}, {row{23}, 8, api.ErrInexact}, {row{1, 89}, 8, api.ErrInexact}, {row{2}, 0, api.ErrInexact}, {row{1, 3}, 1, api.ErrInexact},
	} {
		r.Vars = names(c.vars)
		wantFindErr(t, r, sums(97, c.roots, row{3, 4, 5}, 2*len(c.roots)), seeds(), c.want)
		wantFindErr(t, r, sums(97, c.roots, row{3, 4, 5}, 2*len(c.roots)+6), seeds(), c.want)
	}
	wantFind(t, ring(97, api.Lex, 3), sums(97, row{96, 95 - 5}, row{3, 4}, 4), seeds(), made(t, ring(97, api.Lex, 3), list{3, 5, 1, 0}, list{4, 1, 2, 1}))
	wantFindErr(t, ring(2, api.Lex, 1), row{1, 0}, nil, api.ErrArg) // 2 is 0
	wantFindErr(t, ring(2, api.Lex, 1), row{0, 1, 1, 1}, nil, api.ErrArg)
}

func TestFindOfTooFewRoots(t *testing.T) { // P20.3: there are not as many as the rule has numbers
	r := ring(7, api.Lex, 3)
	all := row{0, 1, 2, 3, 4, 5, 6}
	for _, c := range []struct {
		rule recur.Rule
		l    row
	}{
		{recur.Rule{0, 1}, row{1, 1}},       // x^2 + 1 has no root
		{recur.Rule{3, 4}, row{0, 1}},       // (x - 2)^2 has one
		{recur.Rule{0, 0}, row{0, 1}},       // x^2 has one
		{recur.Rule{6, 1, 6}, row{0, 0, 1}}, // (x - 1)(x^2 + 1) has one
		{recur.Rule{4, 3, 6}, row{0, 0, 1}}, // (x - 1)^3 has one
	} {
		wantFindErr(t, r, on(t, 7, c.rule, c.l, len(c.l)), all, api.ErrInexact)
		wantFindErr(t, r, on(t, 7, c.rule, c.l, len(c.l)), nil, api.ErrInexact)
		wantFindErr(t, r, on(t, 7, c.rule, c.l, 40-len(c.l)), all, api.ErrInexact)
	}
}

func TestFindByTooFewSeeds(t *testing.T) { // P20.3: ahead of what is wrong with the roots
	r := ring(7, api.Lex, 2)
	// Of 1 and 2 each to the 3rd leaves 1; 1 and 2 more are 2 and 3, of which 3 does not; 0 and 6 do not.
	for _, roots := range []row{{1, 2}, {2, 1}, {0, 6}} {
		values := sums(7, roots, row{1, 3}, 4)
		for _, seeds := range []row{nil, {}, {0}, {7, 0, 14}, {0, 7, 0}} {
			wantFindErr(t, r, values, seeds, api.ErrBudget)
		}
	}
	wantFind(t, r, sums(7, row{1, 2}, row{1, 3}, 4), row{0, 1}, made(t, r, list{1, 0, 0}, list{3, 1, 0}))
	wantFind(t, r, sums(7, row{1, 2}, row{1, 3}, 4), row{8}, made(t, r, list{1, 0, 0}, list{3, 1, 0}))
	// (x - 1)^2 (x - 2), and (x - 1) (x - 2) (x^2 + 1): there are too few roots besides.
	for _, c := range []struct {
		rule recur.Rule
		l    row
	}{{recur.Rule{3, 5, 5}, row{0, 0, 1}}, {recur.Rule{4, 3, 4, 2}, row{0, 0, 0, 1}}} {
		values := on(t, 7, c.rule, c.l, len(c.l))
		wantFindErr(t, r, values, row{0, 0}, api.ErrBudget)
		wantFindErr(t, r, values, row{0, 1}, api.ErrInexact)
	}
}

// What follows finds polynomials by trying all there are, modulo small primes.

// allOf is all lists of n numbers below p.
func allOf(p uint64, n int) []row {
	all := []row{nil}
	for range n {
		var longer []row
		for _, l := range all {
			for x := range p {
				longer = append(longer, append(slices.Clone(l), x))
			}
		}
		all = longer
	}
	return all
}

// goesOn tells whether values go on by a rule.
func goesOn(p uint64, rule, values row) bool {
	for place := len(rule); place < len(values); place++ {
		sum := values[place]
		for i, x := range rule {
			sum += x * values[place-1-i]
		}
		if sum%p != 0 {
			return false
		}
	}
	return true
}

// plainRule is the shortest rule of values, which is one alone, and whether it is short enough.
func plainRule(p uint64, values row) (row, bool) {
	for n := range len(values)/2 + 1 {
		for _, rule := range allOf(p, n) {
			if goesOn(p, rule, values) {
				return rule, true
			}
		}
	}
	return nil, false
}

// plainRoots is the numbers of which a row of powers goes on by a rule.
func plainRoots(p uint64, rule row) row {
	var roots row
	for x := range p {
		powers := make(row, len(rule)+1)
		for i := range powers {
			powers[i] = power(x, uint64(i), p)
		}
		if goesOn(p, rule, powers) {
			roots = append(roots, x)
		}
	}
	return roots
}

// allTold tells whether of each two numbers there is a seed that tells them apart: by which seeds each leaves 1 is a text of its own.
func allTold(p uint64, l, seeds row) bool {
	if p == 2 {
		return true
	}
	texts := map[string]int{}
	for _, x := range l {
		var text []byte
		for _, seed := range seeds {
			text = append(text, '0')
			if power(plus(x, seed, p), p/2, p) == 1 {
				text[len(text)-1] = '1'
			}
		}
		texts[string(text)]++
	}
	return len(texts) == len(l)
}

// plainFind is what Find is to answer.
func plainFind(r api.Ring, values, seeds row) ([]mpoly.Term, api.Errno) {
	rule, is := plainRule(r.P, values)
	if !is {
		return nil, api.ErrInexact
	}
	roots := plainRoots(r.P, rule)
	if !allTold(r.P, roots, seeds) {
		return nil, api.ErrBudget
	}
	if len(roots) != len(rule) {
		return nil, api.ErrInexact
	}
	terms := make([]mpoly.Term, len(roots))
	for i, x := range roots {
		if x == 0 {
			return nil, api.ErrArg
		}
		e, is := expsOf(x, len(r.Vars))
		if !is {
			return nil, api.ErrInexact
		}
		terms[i].E = e
	}
	for _, factors := range allOf(r.P, len(roots)) {
		if slices.Equal(sums(r.P, roots, factors, len(values)), values) {
			for i, c := range factors {
				terms[i].C = number(c)
			}
		}
	}
	return terms, api.OK
}

func TestFindOfAllSmallValues(t *testing.T) { // P20.3
	found := map[api.Errno]int{}
	for _, c := range []struct {
		p    uint64
		most int
	}{{2, 8}, {3, 6}, {5, 4}, {7, 4}, {11, 2}, {23, 2}} {
		for n := 0; n <= c.most; n += 2 {
			for i, values := range allOf(c.p, n) {
				r := ring(c.p, termOrders()[i%3], i/3%5)
				if c.p > 7 {
					r.Vars = names(i % 9)
				}
				for _, seeds := range []row{nil, {1, 0, c.p}, {0, 1, 2, 3, 4, 5, 6}} {
					terms, err := plainFind(r, values, seeds)
					if found[err]++; err != api.OK {
						wantFindErr(t, r, values, seeds, err)
					} else {
						wantFind(t, r, values, seeds, polyOf(t, r, terms))
					}
				}
			}
		}
	}
	for _, err := range []api.Errno{api.OK, api.ErrArg, api.ErrInexact, api.ErrBudget} {
		if found[err] < 100 {
			t.Errorf("too few of each: %v", found)
		}
	}
}

func TestFindByRulesOfThree(t *testing.T) { // P20.3: with roots that are told apart, and such that are not
	for _, p := range []uint64{5, 7} {
		for i, rule := range allOf(p, 3) {
			r := ring(p, api.GrevLex, 2+i%2)
			values := on(t, p, recur.Rule(rule), row{uint64(i) % 3, 0, 1}, 3)
			for _, seeds := range []row{nil, {0}, {3}, {0, 1, 2, 3, 4, 5, 6}} {
				if terms, err := plainFind(r, values, seeds); err != api.OK {
					wantFindErr(t, r, values, seeds, err)
				} else {
					wantFind(t, r, values, seeds, polyOf(t, r, terms))
				}
			}
		}
	}
}
