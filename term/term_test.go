package term_test

import (
	"math"
	"slices"
	"testing"

	"vinculum/api"
	"vinculum/term"
)

type list = []int

// most is the greatest exponent, manyVars is how many variables there may be.
const (
	most     = 1048576
	manyVars = 8
)

// source is numbers that look like any others, the same ones in every run.
type source uint64

func (s *source) word() uint64 {
	*s += 0x9e3779b97f4a7c15
	w := uint64(*s)
	w = (w ^ w>>30) * 0xbf58476d1ce4e5b9
	w = (w ^ w>>27) * 0x94d049bb133111eb
	return w ^ w>>31
}

// below is a number from 0 to n less 1.
func (s *source) below(n int) int { return int(s.word() % uint64(n)) }

// exponents are n that may be, up to a greatest one; 0 and that one are often among them.
func (s *source) exponents(n, greatest int) list {
	l := make(list, n)
	for i := range l {
		switch s.below(6) {
		case 0:
			l[i] = 0
		case 1:
			l[i] = greatest
		default:
			l[i] = s.below(greatest + 1)
		}
	}
	return l
}

// allOf is every list of n numbers below m.
func allOf(m, n int) []list {
	lists := []list{{}}
	for range n {
		var longer []list
		for _, l := range lists {
			for x := range m {
				longer = append(longer, append(slices.Clone(l), x))
			}
		}
		lists = longer
	}
	return lists
}

// filled is n numbers that are all the same.
func filled(n, x int) list { return slices.Repeat(list{x}, n) }

// may is whether exponents may be, by other means than the program's.
func may(a list) bool {
	return len(a) <= manyVars && (len(a) == 0 || slices.Min(a) >= 0 && slices.Max(a) <= most)
}

// mayNotBe are lists that are no exponents, each by another reason.
func mayNotBe() []list {
	return []list{
		{-1}, {most + 1}, {0, -1}, {-1, 0}, {most + 1, 0}, {0, most + 1}, {most + 1, -1}, {math.MinInt}, {math.MaxInt}, {math.MinInt, math.MaxInt}, {math.MaxInt, math.MaxInt}, {-5, 5},
		filled(8, -1), filled(8, most+1), {0, 0, 0, 0, 0, 0, 0, -1}, {0, 0, 0, 0, 0, 0, 0, most + 1}, make(list, 9), filled(9, 1), filled(9, -1), make(list, 1000),
	}
}

func TestCheck(t *testing.T) { // P13.1
	cases := []struct {
		e    list
		vars int
		want api.Errno
	}{
		{nil, 0, api.OK}, {list{}, 0, api.OK}, {list{0}, 1, api.OK}, {list{most}, 1, api.OK}, {list{1, 2}, 2, api.OK}, {make(list, 8), 8, api.OK}, {filled(8, most), 8, api.OK},
		// Not so many variables.
		{nil, -1, api.ErrArg}, {nil, math.MinInt, api.ErrArg}, {nil, 9, api.ErrArg}, {nil, math.MaxInt, api.ErrArg}, {make(list, 9), 9, api.ErrArg}, {make(list, 10), 10, api.ErrArg}, {list{1}, -1, api.ErrArg},
		// Not so many numbers.
		{nil, 1, api.ErrArg}, {nil, 8, api.ErrArg}, {list{1}, 0, api.ErrArg}, {list{1, 2}, 1, api.ErrArg}, {list{1, 2}, 3, api.ErrArg}, {make(list, 9), 8, api.ErrArg}, {make(list, 8), 9, api.ErrArg}, {make(list, 7), 8, api.ErrArg},
		// Below 0.
		{list{-1}, 1, api.ErrArg}, {list{0, -1}, 2, api.ErrArg}, {list{-1, 0}, 2, api.ErrArg}, {list{math.MinInt}, 1, api.ErrArg}, {list{0, 0, 0, 0, 0, 0, 0, -1}, 8, api.ErrArg},
		// Above the limit.
		{list{most + 1}, 1, api.ErrLimit}, {list{0, most + 1}, 2, api.ErrLimit}, {list{most + 1, 0}, 2, api.ErrLimit}, {list{math.MaxInt}, 1, api.ErrLimit}, {list{0, 0, 0, 0, 0, 0, 0, most + 1}, 8, api.ErrLimit}, {filled(8, math.MaxInt), 8, api.ErrLimit},
		// What is ErrArg goes ahead, wherever it stands.
		{list{most + 1, -1}, 2, api.ErrArg}, {list{-1, most + 1}, 2, api.ErrArg}, {list{most + 1, 0, -1}, 3, api.ErrArg}, {list{most + 1}, 2, api.ErrArg}, {list{most + 1}, 0, api.ErrArg}, {filled(9, most+1), 9, api.ErrArg},
	}
	for _, c := range cases {
		if got := term.Check(c.e, c.vars); got != c.want {
			t.Errorf("Check of %d, %d variables: got the error %d, want %d", c.e, c.vars, int(got), int(c.want))
		}
	}
}

func TestDeg(t *testing.T) { // P13.1
	cases := []struct {
		a    list
		want int
	}{{nil, 0}, {list{}, 0}, {list{0}, 0}, {list{5}, 5}, {list{3, 0, 4}, 7}, {list{most}, most}, {list{most, most}, 2 * most}, {filled(8, most), 8 * most}, {list{1, 2, 3, 4, 5, 6, 7, 8}, 36}, {make(list, 8), 0}}
	for _, c := range cases {
		if got := term.Deg(c.a); got != c.want {
			t.Errorf("Deg of %d: got %d, want %d", c.a, got, c.want)
		}
	}
	for _, a := range mayNotBe() {
		if got := term.Deg(a); got != 0 {
			t.Errorf("Deg of %d, which may not be: got %d", a, got)
		}
	}
}

// pairCall makes exponents of two.
type pairCall func(a, b []int) ([]int, api.Errno)

func pairCalls() map[string]pairCall {
	return map[string]pairCall{"Mul": term.Mul, "Div": term.Div, "Gcd": term.Gcd, "Lcm": term.Lcm}
}

// madeOf is what a call is to answer, of exponents that may be.
func madeOf(name string, a, b list) (list, api.Errno) {
	made := list{}
	for i := range a {
		both := list{a[i], b[i]}
		switch name {
		case "Mul":
			made = append(made, a[i]+b[i])
		case "Div":
			made = append(made, a[i]-b[i])
		case "Gcd":
			made = append(made, slices.Min(both))
		case "Lcm":
			made = append(made, slices.Max(both))
		}
	}
	for _, x := range made {
		if x > most {
			return nil, api.ErrLimit
		}
		if x < 0 {
			return nil, api.ErrInexact
		}
	}
	return made, api.OK
}

func wantPair(t *testing.T, name string, call pairCall, a, b, want list, err api.Errno) {
	t.Helper()
	if got, e := call(a, b); !slices.Equal(got, want) || e != err {
		t.Errorf("%s of %d, %d: got %d, error %d, want %d, error %d", name, a, b, got, int(e), want, int(err))
	}
}

func TestPairs(t *testing.T) { // P13.2
	cases := []struct {
		name       string
		a, b, want list
		err        api.Errno
	}{
		{"Mul", list{3, 0, 2}, list{1, 0, 5}, list{4, 0, 7}, api.OK}, {"Mul", nil, nil, nil, api.OK}, {"Mul", list{most - 1}, list{1}, list{most}, api.OK}, {"Mul", list{most}, list{0}, list{most}, api.OK},
		{"Mul", list{most}, list{1}, nil, api.ErrLimit}, {"Mul", list{1}, list{most}, nil, api.ErrLimit}, {"Mul", filled(8, most), filled(8, most), nil, api.ErrLimit}, {"Mul", list{1, 2, most}, list{1, 2, 1}, nil, api.ErrLimit}, {"Mul", list{most, 2, 0}, list{1, 2, 1}, nil, api.ErrLimit},
		{"Div", list{3, 0, 5}, list{1, 0, 5}, list{2, 0, 0}, api.OK}, {"Div", list{}, nil, nil, api.OK}, {"Div", list{most}, list{most}, list{0}, api.OK}, {"Div", list{most, most}, list{0, 1}, list{most, most - 1}, api.OK},
		{"Div", list{3, 0, 2}, list{1, 0, 5}, nil, api.ErrInexact}, {"Div", list{0}, list{1}, nil, api.ErrInexact}, {"Div", list{0, 9}, list{1, 0}, nil, api.ErrInexact}, {"Div", list{9, 0}, list{0, most}, nil, api.ErrInexact},
		{"Gcd", list{3, 0, 2}, list{1, 0, 5}, list{1, 0, 2}, api.OK}, {"Gcd", nil, list{}, nil, api.OK}, {"Gcd", filled(8, most), make(list, 8), make(list, 8), api.OK},
		{"Lcm", list{3, 0, 2}, list{1, 0, 5}, list{3, 0, 5}, api.OK}, {"Lcm", nil, nil, nil, api.OK}, {"Lcm", filled(8, most), make(list, 8), filled(8, most), api.OK},
	}
	for _, c := range cases {
		wantPair(t, c.name, pairCalls()[c.name], c.a, c.b, c.want, c.err)
	}
}

func TestAllSmallPairs(t *testing.T) { // P13.2
	for n := range 4 {
		all := allOf(3, n)
		for name, call := range pairCalls() {
			for _, a := range all {
				for _, b := range all {
					want, err := madeOf(name, a, b)
					wantPair(t, name, call, a, b, want, err)
				}
			}
		}
	}
}

func TestManyPairs(t *testing.T) { // P13.2: of all numbers of variables, near to the limit and far from it
	s := source(1)
	for n := range manyVars + 1 {
		for _, greatest := range []int{1, 5, most / 2, most/2 + 1, most - 1, most} {
			for range 50 {
				a, b := s.exponents(n, greatest), s.exponents(n, greatest)
				for name, call := range pairCalls() {
					want, err := madeOf(name, a, b)
					wantPair(t, name, call, a, b, want, err)
				}
			}
		}
	}
}

func TestPairsThatMayNotBe(t *testing.T) { // P13.2: ahead of all other errors, on either side
	s := source(2)
	for name, call := range pairCalls() {
		for _, a := range mayNotBe() {
			for _, b := range append(mayNotBe(), make(list, len(a)), filled(len(a), 1), filled(len(a), most), nil) {
				wantPair(t, name, call, a, b, nil, api.ErrArg)
				wantPair(t, name, call, b, a, nil, api.ErrArg)
			}
		}
		for n := range manyVars + 1 {
			for m := range manyVars + 1 {
				if n != m {
					wantPair(t, name, call, s.exponents(n, most), s.exponents(m, most), nil, api.ErrArg)
					wantPair(t, name, call, make(list, n), make(list, m), nil, api.ErrArg)
				}
			}
		}
	}
}

func TestPairsAmongOneAnother(t *testing.T) { // P13.2: what was multiplied is divided again, Gcd times Lcm is the product
	s := source(3)
	for n := range manyVars + 1 {
		for range 100 {
			a, b := s.exponents(n, most/2), s.exponents(n, most/2)
			product, _ := term.Mul(a, b)
			wantPair(t, "Div", term.Div, product, b, a, api.OK)
			wantPair(t, "Div", term.Div, product, a, b, api.OK)
			g, _ := term.Gcd(a, b)
			l, _ := term.Lcm(a, b)
			wantPair(t, "Mul", term.Mul, g, l, product, api.OK)
			if term.Deg(product) != term.Deg(a)+term.Deg(b) {
				t.Errorf("Deg of %d times %d: got %d", a, b, term.Deg(product))
			}
		}
	}
}
