package nat_test

import (
	"math"
	"slices"
	"testing"

	"vinculum/api"
	"vinculum/nat"
)

// answer is what a call answers: its numbers, and all else by its digits or numbers.
type answer struct {
	numbers []nat.Nat
	rest    []uint64
	text    string
	err     api.Errno
}

func (a answer) is(b answer) bool {
	return slices.EqualFunc(a.numbers, b.numbers, func(x, y nat.Nat) bool { return slices.Equal(x, y) }) &&
		slices.Equal(a.rest, b.rest) && a.text == b.text && a.err == b.err
}

func (a answer) copied() answer {
	var numbers []nat.Nat
	for _, x := range a.numbers {
		numbers = append(numbers, slices.Clone(x))
	}
	a.numbers = numbers
	return a
}

func one(x nat.Nat) answer { return answer{numbers: []nat.Nat{x}} }

func oneOr(x nat.Nat, err api.Errno) answer { return answer{numbers: []nat.Nat{x}, err: err} }

func lowest(x nat.Nat) uint64 {
	if len(x) == 0 {
		return 0
	}
	return x[0]
}

// calls are all that take numbers, each made a call of two.
func calls() map[string]func(x, y nat.Nat) answer {
	return map[string]func(x, y nat.Nat) answer{
		"Norm": func(x, y nat.Nat) answer { return one(nat.Norm(x)) },
		"Cmp":  func(x, y nat.Nat) answer { return answer{rest: []uint64{uint64(nat.Cmp(x, y))}} },
		"Add":  func(x, y nat.Nat) answer { return one(nat.Add(x, y)) },
		"Sub":  func(x, y nat.Nat) answer { return oneOr(nat.Sub(x, y)) },
		"Mul":  func(x, y nat.Nat) answer { return one(nat.Mul(x, y)) },
		"Karatsuba by 1": func(x, y nat.Nat) answer {
			return oneOr(nat.Karatsuba(x, y, 1))
		},
		"Karatsuba by 3": func(x, y nat.Nat) answer {
			return oneOr(nat.Karatsuba(x, y, 3))
		},
		"Karatsuba by 0": func(x, y nat.Nat) answer {
			return oneOr(nat.Karatsuba(x, y, 0))
		},
		"DivMod": func(x, y nat.Nat) answer {
			q, left, err := nat.DivMod(x, y)
			return answer{numbers: []nat.Nat{q, left}, err: err}
		},
		"DivWord": func(x, y nat.Nat) answer {
			q, left, err := nat.DivWord(x, lowest(y))
			return answer{numbers: []nat.Nat{q}, rest: []uint64{left}, err: err}
		},
		"Shl by 0":    func(x, y nat.Nat) answer { return oneOr(nat.Shl(x, 0)) },
		"Shl":         func(x, y nat.Nat) answer { return oneOr(nat.Shl(x, 70)) },
		"Shl by less": func(x, y nat.Nat) answer { return oneOr(nat.Shl(x, -1)) },
		"Shl by more": func(x, y nat.Nat) answer { return oneOr(nat.Shl(x, math.MaxInt)) },
		"Shr by 0":    func(x, y nat.Nat) answer { return oneOr(nat.Shr(x, 0)) },
		"Shr":         func(x, y nat.Nat) answer { return oneOr(nat.Shr(x, 70)) },
		"Shr by less": func(x, y nat.Nat) answer { return oneOr(nat.Shr(x, -1)) },
		"Shr by more": func(x, y nat.Nat) answer { return oneOr(nat.Shr(x, math.MaxInt)) },
		"Bits":        func(x, y nat.Nat) answer { return answer{rest: []uint64{uint64(nat.Bits(x))}} },
		"Gcd":         func(x, y nat.Nat) answer { return one(nat.Gcd(x, y)) },
		"Print":       func(x, y nat.Nat) answer { return answer{text: nat.Print(x)} },
	}
}

// samples are numbers of all kinds: 0, short, long, with words 0 at their end.
func samples() []nat.Nat {
	s := source(13)
	return []nat.Nat{
		nil, {}, {0}, {0, 0, 0}, {1}, {1, 0}, {12}, {1 << 63}, {0, 1}, {5, 6, 0, 0},
		full(1), full(2), full(5), s.number(3), s.number(4), s.number(7), s.number(12),
		append(s.number(6), 0, 0),
	}
}

// behind is what stands behind the length of a number that is handed in.
const behind = 0xdeadbeef

func guarded(x nat.Nat) (nat.Nat, []uint64) {
	all := append(slices.Clone(x), behind, behind, behind, behind)
	return all[:len(x)], all
}

func overwrite(x nat.Nat) {
	x = x[:cap(x)]
	for i := range x {
		x[i] = ^x[i]
	}
}

// eachCall goes through all calls and all pairs of samples.
func eachCall(f func(name string, call func(x, y nat.Nat) answer, x, y nat.Nat)) {
	list := samples()
	for name, call := range calls() {
		for _, x := range list {
			for _, y := range list {
				f(name, call, x, y)
			}
		}
	}
}

func TestErrorsStandAlone(t *testing.T) { // R1
	eachCall(func(name string, call func(x, y nat.Nat) answer, x, y nat.Nat) {
		got := call(x, y)
		if got.err == api.OK {
			return
		}
		for _, z := range got.numbers {
			wantNone(t, name, z)
		}
		for _, w := range got.rest {
			if w != 0 {
				t.Errorf("%s: got %d beside an error", name, w)
			}
		}
	})
}

func TestAnswersHaveNoWordsZeroAtTheirEnd(t *testing.T) { // the words of chapter 1
	eachCall(func(name string, call func(x, y nat.Nat) answer, x, y nat.Nat) {
		for _, z := range call(x, y).numbers {
			if len(z) > 0 && z[len(z)-1] == 0 {
				t.Errorf("%s of %v and %v: got %v", name, x, y, z)
			}
		}
	})
}

func TestWhatIsHandedInIsKept(t *testing.T) { // R2
	eachCall(func(name string, call func(x, y nat.Nat) answer, x, y nat.Nat) {
		a, allA := guarded(x)
		b, allB := guarded(y)
		_, wantA := guarded(x)
		_, wantB := guarded(y)
		got := call(a, b)
		if !slices.Equal(allA, wantA) || !slices.Equal(allB, wantB) {
			t.Errorf("%s of %v and %v writes into them", name, x, y)
		}
		for _, z := range got.numbers {
			overwrite(z)
		}
		if !slices.Equal(allA, wantA) || !slices.Equal(allB, wantB) {
			t.Errorf("%s of %v and %v answers a piece of them", name, x, y)
		}
	})
}

func TestWhatIsAnsweredIsTheCallers(t *testing.T) { // R2
	eachCall(func(name string, call func(x, y nat.Nat) answer, x, y nat.Nat) {
		a, allA := guarded(x)
		b, allB := guarded(y)
		got := call(a, b)
		want := got.copied()
		overwrite(allA)
		overwrite(allB)
		call(a, b)
		call(b, a)
		if !got.is(want) {
			t.Errorf("%s of %v and %v: its answer is changed from without", name, x, y)
		}
		for i := range got.numbers {
			overwrite(got.numbers[i])
			for j := i + 1; j < len(got.numbers); j++ {
				if !slices.Equal(got.numbers[j], want.numbers[j]) {
					t.Errorf("%s of %v and %v: two of its answers share memory", name, x, y)
				}
			}
		}
	})
}

func TestOneNumberHandedInTwice(t *testing.T) { // R2
	for name, call := range calls() {
		for _, x := range samples() {
			want := call(slices.Clone(x), slices.Clone(x))
			got := call(x, x)
			if !got.is(want) {
				t.Errorf("%s of %v and itself: got %v, want %v", name, x, got, want)
			}
			if len(x) == 0 {
				continue
			}
			y := x[1:]
			want = call(slices.Clone(x), slices.Clone(y))
			if got := call(x, y); !got.is(want) {
				t.Errorf("%s of %v and a piece of it: got %v, want %v", name, x, got, want)
			}
		}
	}
}

func TestAnswersHangOnArgumentsAlone(t *testing.T) { // R3
	eachCall(func(name string, call func(x, y nat.Nat) answer, x, y nat.Nat) {
		want := call(x, y)
		a, _ := guarded(x)
		b, _ := guarded(y)
		call(b, a)
		if got := call(a, b); !got.is(want) {
			t.Errorf("%s of %v and %v: got %v, then %v", name, x, y, want, got)
		}
	})
}

func TestParsedNumbersAreTheCallers(t *testing.T) { // R2, R3
	const s = "340282366920938463463374607431768211456"
	x, _ := nat.Parse(s)
	overwrite(x)
	y, err := nat.Parse(s)
	if got := nat.Print(y); got != s || err != api.OK {
		t.Errorf("parsed again: got %s, %v", got, err)
	}
}
