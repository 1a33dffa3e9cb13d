package bigint_test

import (
	"math"
	"slices"
	"testing"

	"vinculum/api"
	"vinculum/bigint"
	"vinculum/nat"
)

// answer is what a call answers: its whole numbers, and all else by its digits.
type answer struct {
	ints []bigint.Int
	nat  nat.Nat
	rest int
	is   bool
	text string
	err  api.Errno
}

func (a answer) matches(b answer) bool {
	return slices.Equal(a.texts(), b.texts()) && slices.Equal(a.nat, b.nat) &&
		a.rest == b.rest && a.is == b.is && a.text == b.text && a.err == b.err
}

func (a answer) texts() []string {
	var list []string
	for _, x := range a.ints {
		list = append(list, x.Print())
	}
	return list
}

func one(x bigint.Int) answer { return answer{ints: []bigint.Int{x}} }

func oneOr(x bigint.Int, err api.Errno) answer { return answer{ints: []bigint.Int{x}, err: err} }

func twoOr(x, y bigint.Int, err api.Errno) answer { return answer{ints: []bigint.Int{x, y}, err: err} }

func lowest(x bigint.Int) uint64 {
	if n := x.Nat(); len(n) > 0 {
		return n[0]
	}
	return 0
}

// calls are all that take whole numbers, each made a call of two.
func calls() map[string]func(x, y bigint.Int) answer {
	return map[string]func(x, y bigint.Int) answer{
		"Nat":         func(x, y bigint.Int) answer { return answer{nat: x.Nat()} },
		"Sign":        func(x, y bigint.Int) answer { return answer{rest: x.Sign()} },
		"Cmp":         func(x, y bigint.Int) answer { return answer{rest: x.Cmp(y)} },
		"Neg":         func(x, y bigint.Int) answer { return one(x.Neg()) },
		"Add":         func(x, y bigint.Int) answer { return one(x.Add(y)) },
		"Sub":         func(x, y bigint.Int) answer { return one(x.Sub(y)) },
		"Mul":         func(x, y bigint.Int) answer { return one(x.Mul(y)) },
		"QuoRem":      func(x, y bigint.Int) answer { return twoOr(x.QuoRem(y)) },
		"DivMod":      func(x, y bigint.Int) answer { return twoOr(x.DivMod(y)) },
		"Exact":       func(x, y bigint.Int) answer { return oneOr(x.Exact(y)) },
		"Gcd":         func(x, y bigint.Int) answer { return one(x.Gcd(y)) },
		"Pow by 0":    func(x, y bigint.Int) answer { return oneOr(x.Pow(0)) },
		"Pow by 1":    func(x, y bigint.Int) answer { return oneOr(x.Pow(1)) },
		"Pow":         func(x, y bigint.Int) answer { return oneOr(x.Pow(5)) },
		"Pow by less": func(x, y bigint.Int) answer { return oneOr(x.Pow(-1)) },
		"Pow by more": func(x, y bigint.Int) answer { return oneOr(x.Pow(math.MaxInt)) },
		"Mod": func(x, y bigint.Int) answer {
			left, err := x.Mod(lowest(y))
			return answer{rest: int(left), err: err}
		},
		"Bits": func(x, y bigint.Int) answer { return answer{rest: x.Bits()} },
		"Small": func(x, y bigint.Int) answer {
			n, is := x.Small()
			return answer{rest: n, is: is}
		},
		"Print": func(x, y bigint.Int) answer { return answer{text: x.Print()} },
	}
}

// samples are numbers of all kinds, each made anew.
func samples() []bigint.Int {
	var list []bigint.Int
	for _, n := range []int{0, 1, -1, 12, -18, math.MaxInt, math.MinInt} {
		list = append(list, bigint.Of(n))
	}
	s := source(8)
	for n := range 7 {
		list = append(list, s.number(n), s.number(n))
	}
	var none bigint.Int
	return append(list, none, s.number(45), bigint.From(true, nat.Nat{0, 0, 1, 0}))
}

// eachCall goes through all calls and all pairs of samples.
func eachCall(f func(name string, call func(x, y bigint.Int) answer, x, y bigint.Int)) {
	list := samples()
	for name, call := range calls() {
		for _, x := range list {
			for _, y := range list {
				f(name, call, x, y)
			}
		}
	}
}

func TestErrorsStandAlone(t *testing.T) { // R1
	eachCall(func(name string, call func(x, y bigint.Int) answer, x, y bigint.Int) {
		got := call(x, y)
		if got.err == api.OK {
			return
		}
		for _, z := range got.ints {
			wantNone(t, name, z)
		}
		if got.rest != 0 {
			t.Errorf("%s: got %d beside an error", name, got.rest)
		}
	})
}

func TestNumbersStayAsTheyAre(t *testing.T) { // R2
	eachCall(func(name string, call func(x, y bigint.Int) answer, x, y bigint.Int) {
		before, after := x.Print(), y.Print()
		got := call(x, y)
		want := got.texts()
		overwrite(got.nat)
		for _, z := range got.ints {
			overwrite(z.Nat())
			for _, again := range calls() {
				again(z, x)
				again(y, z)
			}
		}
		if x.Print() != before || y.Print() != after {
			t.Errorf("%s of %s and %s changes them", name, before, after)
		}
		if !slices.Equal(got.texts(), want) {
			t.Errorf("%s of %s and %s: its answer is changed from without", name, before, after)
		}
	})
}

func overwrite(x nat.Nat) {
	x = x[:cap(x)]
	for i := range x {
		x[i] = ^x[i]
	}
}

func TestFromKeepsNothing(t *testing.T) { // R2
	for _, words := range []nat.Nat{nil, {0}, {0, 0}, {5}, {5, 6}, {5, 6, 0, 0}} {
		for _, neg := range []bool{false, true} {
			const behind = 0xdeadbeef
			all := append(slices.Clone(words), behind, behind)
			before := slices.Clone(all)
			x := bigint.From(neg, all[:len(words)])
			want := x.Print()
			if !slices.Equal(all, before) {
				t.Errorf("From writes into %v", words)
			}
			overwrite(x.Nat())
			if !slices.Equal(all, before) {
				t.Errorf("Nat of From is a piece of %v", words)
			}
			overwrite(all)
			if x.Print() != want {
				t.Errorf("From keeps %v", words)
			}
		}
	}
}

func TestNatIsTheCallers(t *testing.T) { // R2
	for _, x := range samples() {
		want := x.Print()
		first, second := x.Nat(), x.Nat()
		overwrite(first)
		if !slices.Equal(second, x.Nat()) || x.Print() != want {
			t.Errorf("Nat of %s hands out what it keeps", want)
		}
	}
}

func TestOneNumberHandedInTwice(t *testing.T) { // R2
	for name, call := range calls() {
		for _, x := range samples() {
			y := bigint.From(x.Sign() < 0, x.Nat())
			want := call(x, y)
			if got := call(x, x); !got.matches(want) {
				t.Errorf("%s of %s and itself: got %v, want %v", name, x.Print(), got, want)
			}
		}
	}
}

func TestAnswersHangOnArgumentsAlone(t *testing.T) { // R3
	eachCall(func(name string, call func(x, y bigint.Int) answer, x, y bigint.Int) {
		want := call(x, y)
		call(y, x)
		a, b := bigint.From(x.Sign() < 0, x.Nat()), bigint.From(y.Sign() < 0, y.Nat())
		if got := call(a, b); !got.matches(want) {
			t.Errorf("%s of %s and %s: got %v, then %v", name, x.Print(), y.Print(), want, got)
		}
	})
}
