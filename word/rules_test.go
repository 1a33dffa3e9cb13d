package word_test

import (
	"math"
	"slices"
	"sync"
	"testing"

	"vinculum/api"
	"vinculum/word"
)

// answer is what a call answers.
type answer struct {
	word uint64
	list []uint64
	err  api.Errno
}

func (a answer) matches(b answer) bool {
	return a.word == b.word && slices.Equal(a.list, b.list) && a.err == b.err
}

func wordOr(x uint64, err api.Errno) answer { return answer{word: x, err: err} }

func listOr(l []uint64, err api.Errno) answer { return answer{list: l, err: err} }

// calls are all of a field, each made a call of two words.
func calls() map[string]func(f *word.Field, x, y uint64) answer {
	return map[string]func(f *word.Field, x, y uint64) answer{
		"M":            func(f *word.Field, x, y uint64) answer { return answer{word: f.M()} },
		"Of":           func(f *word.Field, x, y uint64) answer { return answer{word: f.Of(x)} },
		"Add":          func(f *word.Field, x, y uint64) answer { return answer{word: f.Add(x, y)} },
		"Sub":          func(f *word.Field, x, y uint64) answer { return answer{word: f.Sub(x, y)} },
		"Mul":          func(f *word.Field, x, y uint64) answer { return answer{word: f.Mul(x, y)} },
		"Pow":          func(f *word.Field, x, y uint64) answer { return answer{word: f.Pow(x, y)} },
		"Inv":          func(f *word.Field, x, y uint64) answer { return wordOr(f.Inv(x)) },
		"Invs":         func(f *word.Field, x, y uint64) answer { return listOr(f.Invs([]uint64{x, y, x})) },
		"Invs of none": func(f *word.Field, x, y uint64) answer { return listOr(f.Invs(nil)) },
		"In":           func(f *word.Field, x, y uint64) answer { return wordOr(f.In(x)) },
		"Times":        func(f *word.Field, x, y uint64) answer { return wordOr(f.Times(x, y)) },
		"Out":          func(f *word.Field, x, y uint64) answer { return wordOr(f.Out(x)) },
	}
}

// fails are the calls that answer an error.
func fails(name string) bool {
	return slices.Contains([]string{"Inv", "Invs", "Invs of none", "In", "Times", "Out"}, name)
}

func TestNilFields(t *testing.T) { // P3.1, R1
	var none *word.Field
	for name, call := range calls() {
		want := answer{}
		if fails(name) {
			want.err = api.ErrNil
		}
		for _, x := range []uint64{0, 1, 2, math.MaxUint64} {
			for _, y := range []uint64{0, 1, 2, math.MaxUint64} {
				if got := call(none, x, y); !got.matches(want) {
					t.Errorf("%s of a nil field: got %v, want %v", name, got, want)
				}
			}
		}
	}
}

func TestErrorsStandAlone(t *testing.T) { // R1
	eachPair(t, func(f *word.Field, m, x, y uint64) {
		for name, call := range calls() {
			if got := call(f, x, y); got.err != api.OK && (got.word != 0 || len(got.list) != 0) {
				t.Errorf("modulo %d: %s of %d and %d: got %v beside an error", m, name, x, y, got)
			}
		}
	})
}

func TestAnswersAreBelow(t *testing.T) { // P3.1 to P3.3
	eachPair(t, func(f *word.Field, m, x, y uint64) {
		for name, call := range calls() {
			got := call(f, x, y)
			for _, z := range append(got.list, got.word) {
				if z >= m && name != "M" {
					t.Errorf("modulo %d: %s of %d and %d: got %d", m, name, x, y, z)
				}
			}
		}
	})
}

func TestNumbersAreTakenModulo(t *testing.T) { // P3.1 to P3.3
	eachPair(t, func(f *word.Field, m, x, y uint64) {
		for name, call := range calls() {
			if name == "Pow" { // An exponent is no number modulo m.
				continue
			}
			if got, want := call(f, x, y), call(f, x%m, y%m); !got.matches(want) {
				t.Errorf("modulo %d: %s of %d and %d: got %v, want %v", m, name, x, y, got, want)
			}
		}
		if got, want := f.Pow(x, y), f.Pow(x%m, y); got != want {
			t.Errorf("modulo %d: Pow of %d and %d: got %d, want %d", m, x, y, got, want)
		}
	})
}

func TestInvsKeepsAndWritesNothing(t *testing.T) { // R2
	for _, m := range []uint64{7, 8, 12, 998244353, 1<<63 - 1} {
		for _, list := range [][]uint64{nil, {1}, {3, 5}, {1, 3, 5, 9, 11}, {m + 1, m - 1, math.MaxUint64}, {3, 0, 5}, {2, 6}} {
			const behind = 0xdeadbeef
			all := append(slices.Clone(list), behind, behind)
			before := slices.Clone(all)
			f := fieldOf(t, m)
			got, err := f.Invs(all[:len(list)])
			if !slices.Equal(all, before) {
				t.Errorf("modulo %d: Invs writes into %d", m, list)
			}
			want := slices.Clone(got)
			overwrite(all)
			if !slices.Equal(got, want) {
				t.Errorf("modulo %d: Invs answers a piece of %d", m, list)
			}
			overwrite(got)
			again, errAgain := f.Invs(list)
			if !slices.Equal(again, want) || err != errAgain {
				t.Errorf("modulo %d: Invs of %d: got %d, then %d", m, list, want, again)
			}
		}
	}
}

func overwrite(l []uint64) {
	l = l[:cap(l)]
	for i := range l {
		l[i] = ^l[i]
	}
}

func TestAnswersHangOnArgumentsAlone(t *testing.T) { // R3
	eachPair(t, func(f *word.Field, m, x, y uint64) {
		fresh := fieldOf(t, m)
		for name, call := range calls() {
			want := call(f, x, y)
			call(f, y, x)
			if got := call(fresh, x, y); !got.matches(want) {
				t.Errorf("modulo %d: %s of %d and %d: got %v, then %v", m, name, x, y, want, got)
			}
		}
	})
}

func TestFieldsDoNotMeet(t *testing.T) { // R3
	seven, twelve := fieldOf(t, 7), fieldOf(t, 12)
	if seven.M() != 7 || twelve.M() != 12 || seven.Mul(5, 6) != 2 || twelve.Mul(5, 6) != 6 {
		t.Error("one field changes another")
	}
	if same := fieldOf(t, 7); same.Mul(5, 6) != 2 || seven.Mul(5, 6) != 2 {
		t.Error("a second field of the same word changes the first")
	}
}

func TestOneFieldForMany(t *testing.T) { // R3
	const m = highestPrime
	f := fieldOf(t, m)
	want := map[string]answer{}
	for name, call := range calls() {
		want[name] = call(f, 3, 5)
	}
	var group sync.WaitGroup
	for range 8 {
		group.Go(func() {
			for name, call := range calls() {
				if got := call(f, 3, 5); !got.matches(want[name]) {
					t.Errorf("%s beside others: got %v, want %v", name, got, want[name])
				}
			}
		})
	}
	group.Wait()
}
