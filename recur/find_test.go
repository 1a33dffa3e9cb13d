package recur_test

import (
	"math"
	"slices"
	"testing"

	"vinculum/api"
	"vinculum/recur"
	"vinculum/upoly"
)

// findOf is what Find answers, which must be a rule by which the row goes on.
func findOf(t *testing.T, p uint64, l row) rule {
	t.Helper()
	r, err := recur.Find(p, l)
	if err != api.OK || !slices.Equal(r, leftOf(r, p)) || !goesOn(p, r, l) {
		t.Errorf("modulo %d: Find of %d, %d numbers: got %d, %d numbers, error %d", p, short(l), len(l), short(r), len(r), int(err))
	}
	return r
}

func TestFind(t *testing.T) { // P10.1: where there is one shortest rule
	cases := []struct {
		p    uint64
		l    row
		want rule
	}{
		{7, row{1, 1, 2, 3, 5, 1}, rule{6, 6}}, {7, row{8, 15, 9, 10, 12, 1}, rule{6, 6}}, {7, nil, nil}, {7, row{}, nil}, {7, row{0}, nil}, {7, row{0, 7, 14, 0}, nil},
		{7, row{3, 0}, rule{0}}, {7, row{1, 0, 0, 0}, rule{0}}, {7, row{3, 3}, rule{6}}, {7, row{1, 2}, rule{5}}, {7, row{1, 2, 4, 1, 2, 4}, rule{5}}, {7, row{0, 1, 0, 0}, rule{0, 0}}, {7, row{0, 1, 0, 1}, rule{0, 6}},
		{7, row{0, 1, 2, 3, 4}, rule{5, 1}}, {7, row{0, 0, 1, 0, 0, 1}, rule{0, 0, 6}}, {7, row{0, 0, 1, 0, 0, 0}, rule{0, 0, 0}}, {7, row{1, 0, 2, 0, 4, 0}, rule{0, 5}}, {7, row{0, 1, 4, 2, 2, 4, 1}, rule{4, 3, 6}},
		{2, row{1, 0, 1, 0, 1, 0}, rule{0, 1}}, {2, row{1, 1, 1}, rule{1}}, {2, row{0, 1, 1, 0, 1, 1}, rule{1, 1}}, {2, row{1, 0, 0, 1, 0, 1, 1, 1, 0, 0, 1}, rule{0, 1, 1}},
		{greatest, row{1, greatest - 1, 1, greatest - 1}, rule{1}}, {greatest, row{1, math.MaxUint64}, rule{greatest - 49}}, {greatest, row{math.MaxUint64, math.MaxUint64}, rule{greatest - 1}},
	}
	for _, c := range cases {
		if r := findOf(t, c.p, c.l); !slices.Equal(r, c.want) {
			t.Errorf("modulo %d: Find of %d: got %d, want %d", c.p, c.l, r, c.want)
		}
	}
}

func TestFindWhereThereAreSeveral(t *testing.T) { // P10.1: of a row that goes on by no short rule
	cases := []struct {
		p    uint64
		l    row
		want int
	}{
		{7, row{1}, 1}, {7, row{0, 1}, 2}, {7, row{0, 0, 1}, 3}, {97, row{0, 0, 0, 0, 0, 0, 9}, 7}, {7, row{1, 1, 1, 2}, 3}, {7, row{1, 1, 2}, 2}, {2, row{1, 1, 1, 1, 0}, 4}, {greatest, row{0, greatest, 5}, 3},
	}
	for _, c := range cases {
		if r := findOf(t, c.p, c.l); len(r) != c.want {
			t.Errorf("modulo %d: Find of %d: got %d, want %d numbers", c.p, c.l, r, c.want)
		}
	}
}

// shortestOf is all the rules by which a row goes on of which there are no shorter ones: found among all there are.
func shortestOf(p uint64, l row) []rule {
	for n := 0; ; n++ {
		var found []rule
		for _, r := range allOf(p, n) {
			if goesOn(p, r, l) {
				found = append(found, r)
			}
		}
		if len(found) > 0 {
			return found
		}
	}
}

func TestFindOfAllSmallRows(t *testing.T) { // P10.1, P10.3: held against every rule
	for p, most := range map[uint64]int{2: 8, 3: 6, 5: 4, 7: 3} {
		for n := range most + 1 {
			for _, l := range allOf(p, n) {
				r, all := findOf(t, p, l), shortestOf(p, l)
				if len(r) != len(all[0]) {
					t.Errorf("modulo %d: Find of %d: got %d, and %d is shorter", p, l, r, all[0])
				}
				if 2*len(r) <= len(l) && (len(all) != 1 || !slices.Equal(r, all[0])) {
					t.Errorf("modulo %d: Find of %d: got %d of %d", p, l, r, all)
				}
			}
		}
	}
}

// hasRule tells whether a row goes on by some rule of n numbers: the equations of its numbers are solved by elimination.
func hasRule(p uint64, l row, n int) bool {
	var lines []row
	for place := n; place < len(l); place++ {
		line := make(row, n+1)
		for i := range n {
			line[i] = l[place-1-i] % p
		}
		line[n] = minus(0, l[place], p)
		lines = append(lines, line)
	}
	for column := range n {
		pivot := slices.IndexFunc(lines, func(line row) bool { return line[column] != 0 })
		if pivot < 0 {
			continue
		}
		by := lines[pivot]
		lines = slices.Delete(lines, pivot, pivot+1)
		inverse := power(by[column], p-2, p)
		for _, line := range lines {
			factor := times(line[column], inverse, p)
			for i := range line {
				line[i] = minus(line[i], times(factor, by[i], p), p)
			}
		}
	}
	return !slices.ContainsFunc(lines, func(line row) bool { return line[n] != 0 })
}

// crooked is a row that goes on by several rules, one after the other, with faults and zeros.
func (s *source) crooked(p uint64, n int) row {
	l := s.words(s.below(4))
	for len(l) < n {
		l = moreOf(p, rule(s.words(s.below(min(len(l), 4)+1))), l, s.below(8))
		switch s.below(3) {
		case 0:
			l = append(l, s.word())
		case 1:
			l = append(l, make(row, s.below(4))...)
		}
	}
	return l[:n]
}

func TestFindOfCrookedRows(t *testing.T) { // P10.1: held against equations
	s := source(11)
	for _, p := range primes() {
		for n := range 30 {
			for range 6 {
				l := s.crooked(p, n)
				r := findOf(t, p, l)
				if len(r) > 0 && hasRule(p, l, len(r)-1) {
					t.Errorf("modulo %d: Find of %d: got %d, and there is a shorter one", p, l, r)
				}
				if !hasRule(p, l, len(r)) {
					t.Errorf("modulo %d: Find of %d: got %d, and there is none", p, l, r)
				}
			}
		}
	}
}

// fromRatios is a row of n numbers, each the sum of as many powers as there are ratios, with factors; and the polynomial whose roots the ratios are.
func fromRatios(t *testing.T, p uint64, ratios, factors row, n int) (row, poly) {
	t.Helper()
	f, err := upoly.New(p)
	if err != api.OK {
		t.Fatalf("New of %d: error %d", p, int(err))
	}
	l, char := make(row, n), poly{1}
	for i, q := range ratios {
		char, _ = f.Mul(char, poly{minus(0, q, p), 1}, 1)
		x := factors[i]
		for place := range l {
			l[place] = plus(l[place], x, p)
			x = times(x, q, p)
		}
	}
	return l, char
}

// oneTo is the numbers from 1 to n.
func oneTo(n int) row {
	l := make(row, n)
	for i := range l {
		l[i] = uint64(i) + 1
	}
	return l
}

func TestFindOfSumsOfPowers(t *testing.T) { // P10.1: the rule is known by its roots
	s := source(12)
	for _, p := range []uint64{97, 65537, 998244353, greatest} {
		for _, n := range []int{1, 2, 3, 10, 40, 90} {
			factors := s.words(n)
			for i := range factors {
				factors[i] = factors[i]%(p-1) + 1
			}
			for _, more := range []int{0, 1, 7} {
				l, char := fromRatios(t, p, oneTo(n), factors, 2*n+more)
				got, err := recur.Char(p, findOf(t, p, l))
				if err != api.OK || !slices.Equal(got, char) {
					t.Errorf("modulo %d: the rule of %d powers: got %d, error %d", p, n, short(got), int(err))
				}
			}
		}
	}
}

func TestFindLimit(t *testing.T) { // P10.1
	zeros := make(row, 10001)
	if r, err := recur.Find(7, zeros); len(r) != 0 || err != api.ErrLimit {
		t.Errorf("Find of 10001 numbers: got %d numbers, error %d", len(r), int(err))
	}
	if r, err := recur.Find(7, make(row, 1<<20)); len(r) != 0 || err != api.ErrLimit {
		t.Errorf("Find of a million numbers: got %d numbers, error %d", len(r), int(err))
	}
	if r := findOf(t, 7, zeros[:10000]); len(r) != 0 {
		t.Errorf("Find of 10000 zeros: got %d numbers", len(r))
	}
	zeros[9999] = 1
	if r := findOf(t, 7, zeros[:10000]); len(r) != 10000 {
		t.Errorf("Find of 9999 zeros and a 1: got %d numbers", len(r))
	}
	fibonacci := moreOf(greatest, rule{greatest - 1, greatest - 1}, row{1, 1}, 9998)
	if r := findOf(t, greatest, fibonacci); !slices.Equal(r, rule{greatest - 1, greatest - 1}) {
		t.Errorf("Find of 10000 of Fibonacci's numbers: got %d", short(r))
	}
}

func TestFindOfTheLongestRow(t *testing.T) { // P10.1: of 10000 numbers that go on by 5000
	s := source(13)
	want := rule(leftOf(s.words(5000), greatest))
	l, err := recur.More(greatest, want, s.words(5000), 5000)
	if err != api.OK {
		t.Fatalf("More: error %d", int(err))
	}
	r, err := recur.Find(greatest, l)
	if err != api.OK || !slices.Equal(r, want) {
		t.Errorf("Find: got %d numbers, %d, error %d", len(r), short(r), int(err))
	}
}
