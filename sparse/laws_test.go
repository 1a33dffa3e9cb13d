package sparse_test

import (
	"math"
	"slices"
	"testing"

	"vinculum/api"
	"vinculum/mpoly"
	"vinculum/sparse"
)

// codesBelow are all codes of so many variables below a number, rising.
func codesBelow(p uint64, vars int) row {
	codes := row{1}
	for _, q := range first()[:vars] {
		for i := 0; i < len(codes); i++ {
			if codes[i] <= (p-1)/q {
				codes = append(codes, codes[i]*q)
			}
		}
	}
	slices.Sort(codes)
	return codes
}

// codes are up to n of those below p, no two the same.
func (s *source) codes(p uint64, vars, n int) row {
	var all row
	if p < 1<<20 {
		all = codesBelow(p, vars)
	}
	var l row
	for range 10 * n {
		code := uint64(1)
		if all != nil {
			code = all[s.below(len(all))]
		} else if vars > 0 {
			for range s.below(60) {
				if q := first()[s.below(vars)]; code <= (p-1)/q {
					code *= q
				}
			}
		}
		if len(l) < n && !slices.Contains(l, code) {
			l = append(l, code)
		}
	}
	return l
}

// ofCodes is a polynomial whose terms have these codes.
func (s *source) ofCodes(t *testing.T, r api.Ring, codes row) mpoly.Poly {
	t.Helper()
	var l []mpoly.Term
	for _, code := range codes {
		e, err := sparse.Exps(code, len(r.Vars))
		if err != api.OK {
			t.Fatalf("Exps of %d: error %d", code, int(err))
		}
		l = append(l, mpoly.Term{E: e, C: number(1 + s.word()%(r.P-1))})
	}
	return polyOf(t, r, l)
}

func TestFindOfAsk(t *testing.T) { // P20.4: of twice as many values as there are terms, and more
	s := source(41)
	for _, r := range rings() {
		for _, n := range []int{0, 1, 2, 3, 7, 20} {
			codes := s.codes(r.P, len(r.Vars), n)
			a := s.ofCodes(t, r, codes)
			if a.Len() != len(codes) {
				t.Fatalf("over %v: %d terms of %d codes", r, a.Len(), len(codes))
			}
			all := seeds()
			if r.P <= 23 {
				all = row{0, 1, 2, 3, 4, 5, 6, 7, 8, 9, 10, 11, 12, 13, 14, 15, 16, 17, 18, 19, 20, 21, 22}
			}
			if !allTold(r.P, codes, all) {
				t.Fatalf("modulo %d: the codes %d are not told apart", r.P, codes)
			}
			for _, more := range []int{0, 2, 4, 30, mostPoints - 2*a.Len()} {
				values := asked(t, a, 2*a.Len()+more)
				wantFind(t, r, values, all, a)
				for i := range values {
					values[i] += r.P // it is still a word
				}
				wantFind(t, r, values, all, a)
			}
		}
	}
}

func TestFindByFewSeeds(t *testing.T) { // P20.4: just if they tell the codes apart
	s := source(42)
	found := map[bool]int{}
	for _, p := range []uint64{3, 5, 7, 19, 97, 998244353, greatest} {
		for range 60 {
			r := ring(p, termOrders()[s.below(3)], 1+s.below(8))
			codes := s.codes(p, len(r.Vars), 2+s.below(4))
			if len(codes) < 2 {
				continue
			}
			a := s.ofCodes(t, r, codes)
			few := s.words(s.below(7))
			values := asked(t, a, 2*a.Len()+2*s.below(3))
			told := allTold(p, codes, few)
			if found[told]++; told {
				wantFind(t, r, values, few, a)
			} else {
				wantFindErr(t, r, values, few, api.ErrBudget)
			}
		}
	}
	if found[true] < 50 || found[false] < 50 {
		t.Errorf("too few of each: %v", found)
	}
}

func TestFindOfTheGreatestCodes(t *testing.T) { // P20.4: they are below P, and one more is not
	for _, c := range []struct {
		p    uint64
		vars int
		e    list
	}{{3, 1, list{1}}, {5, 1, list{2}}, {7, 2, list{1, 1}}, {97, 2, list{5, 1}}, {65537, 1, list{16}}, {998244353, 1, list{29}}, {greatest, 1, list{62}}, {greatest, 2, list{0, 39}}, {greatest, 8, list{0, 0, 0, 0, 0, 0, 0, 14}}} {
		r := ring(c.p, api.Lex, c.vars)
		if _, err := sparse.Code(c.e, c.p); err != api.OK {
			t.Errorf("Code of %d below %d: error %d", c.e, c.p, int(err))
		}
		a := made(t, r, append(list{-1}, c.e...))
		wantFind(t, r, asked(t, a, 2), nil, a)
		a = made(t, r, append(list{-1}, c.e...), make(list, 1+c.vars), append(list{1}, make(list, c.vars)...))
		wantFind(t, r, asked(t, a, 4), append(seeds(), 0, 1, 2, 3, 4, 5, 6), a)
	}
	// 2 to the 17th leaves 65535 by 65537, of which 257 is a divisor; 2 to the 3rd leaves 1 by 7.
	r := ring(65537, api.Lex, 8)
	wantFindErr(t, r, asked(t, made(t, r, list{1, 17, 0, 0, 0, 0, 0, 0, 0}), 2), nil, api.ErrInexact)
	r = ring(7, api.Lex, 2)
	wantFind(t, r, asked(t, made(t, r, list{5, 3, 0}), 2), nil, made(t, r, list{5, 0, 0}))
}

func TestFindAtTheLimit(t *testing.T) { // P20.4: 500 terms of 1000 values
	s := source(43)
	for _, p := range []uint64{65537, greatest} {
		r := ring(p, api.GrevLex, mostVars)
		codes := s.codes(p, mostVars, mostPoints/2)
		a := s.ofCodes(t, r, codes)
		if a.Len() != mostPoints/2 || !allTold(p, codes, seeds()) {
			t.Fatalf("modulo %d: %d terms, or not told apart", p, a.Len())
		}
		wantFind(t, r, asked(t, a, mostPoints), seeds(), a)
		wantFindErr(t, r, asked(t, a, mostPoints), nil, api.ErrBudget)
	}
}

func TestAllCodesBelowASmallPrime(t *testing.T) { // P20.4
	s := source(44)
	for _, p := range []uint64{2, 3, 5, 7, 11, 13, 97} {
		for vars := range mostVars + 1 {
			r := ring(p, api.Lex, vars)
			a := s.ofCodes(t, r, codesBelow(p, vars))
			var all row
			for x := range p {
				all = append(all, x)
			}
			wantFind(t, r, asked(t, a, 2*a.Len()), all, a)
		}
	}
}

func TestWhatIsFoundHasTheValues(t *testing.T) { // P20.4: whatever they are of
	s := source(45)
	found := 0
	for range 20000 {
		p := []uint64{2, 3, 5, 7, 11, 97}[s.below(6)]
		r := ring(p, termOrders()[s.below(3)], s.below(9))
		values := s.words(2 * s.below(3))
		if s.below(2) == 0 { // those of a polynomial whose codes are not below P, so that another one may have them
			values = asked(t, s.poly(t, r, s.below(4), 20), 2*s.below(5))
		}
		a, err := sparse.Find(r, values, s.words(5))
		if err != api.OK {
			continue
		}
		if found++; !mpoly.Same(a.Ring(), r) || 2*a.Len() > len(values) || !slices.Equal(asked(t, a, len(values)), left(values, p)) {
			t.Errorf("Find over %v of %d: got %d terms of other values", r, values, a.Len())
		}
		for _, x := range a.Terms() {
			if _, err := sparse.Code(x.E, p); err != api.OK {
				t.Errorf("Find over %v of %d: got a term at %d, whose code is not below P", r, values, x.E)
			}
		}
	}
	if found < 2000 {
		t.Errorf("too few: %d", found)
	}
}

func TestValuesOfSums(t *testing.T) { // P20.2: the value of a sum is the sum of the values
	s := source(46)
	for _, r := range rings() {
		a, b := s.poly(t, r, 8, mostExp), s.poly(t, r, 8, mostExp)
		sum, err := a.Add(b)
		if err != api.OK {
			t.Fatalf("Add: error %d", int(err))
		}
		x, y, z := asked(t, a, 40), asked(t, b, 40), asked(t, sum, 40)
		for i := range z {
			if z[i] != plus(x[i], y[i], r.P) {
				t.Errorf("over %v: the value of the sum at the point %d is not the sum", r, i)
			}
		}
		if longer := asked(t, a, 100); !slices.Equal(longer[:40], x) {
			t.Errorf("over %v: of more points the first values are others", r)
		}
	}
}

func TestTheSameInEachOrderOfTerms(t *testing.T) { // P20.3: the ring's order tells how terms stand, and nothing else
	s := source(47)
	values := asked(t, s.ofCodes(t, ring(greatest, api.Lex, 5), s.codes(greatest, 5, 12)), 24)
	var all [][]mpoly.Term
	for _, order := range termOrders() {
		a, err := sparse.Find(ring(greatest, order, 5), values, seeds())
		if err != api.OK || a.Len() != 12 || !slices.Equal(asked(t, a, 24), values) {
			t.Errorf("by the order %d: got %d terms, error %d", order, a.Len(), int(err))
		}
		other, err := mpoly.Make(ring(greatest, api.Lex, 5), a.Terms())
		if err != api.OK {
			t.Fatalf("Make: error %d", int(err))
		}
		all = append(all, other.Terms())
	}
	if !sameTerms(all[0], all[1]) || !sameTerms(all[1], all[2]) {
		t.Error("other terms by another order")
	}
}

func TestSeedsOfAnyKind(t *testing.T) { // P20.4: which seeds tell the codes apart does not matter
	s := source(48)
	r := ring(998244353, api.Lex, 4)
	a := s.ofCodes(t, r, s.codes(r.P, 4, 10))
	values := asked(t, a, 20)
	for range 20 {
		l := append(s.words(80), 0, math.MaxUint64, r.P)
		wantFind(t, r, values, l, a)
		slices.Reverse(l)
		wantFind(t, r, values, append(l, l...), a)
	}
}
