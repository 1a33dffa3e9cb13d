package ntt_test

import (
	"math"
	"slices"
	"sync"
	"testing"

	"vinculum/api"
	"vinculum/ntt"
)

// answer is what a call answers.
type answer struct {
	word uint64
	list []uint64
	err  api.Errno
}

func (a answer) matches(b answer) bool {
	return a.word == b.word && slices.Equal(a.list, b.list) && a.err == b.err
}

func listOr(l []uint64, err api.Errno) answer { return answer{list: l, err: err} }

// calls are all of a table, each made a call of two lists.
func calls() map[string]func(t *ntt.Table, a, b []uint64) answer {
	return map[string]func(t *ntt.Table, a, b []uint64) answer{
		"K":       func(t *ntt.Table, a, b []uint64) answer { return answer{word: uint64(t.K())} },
		"P":       func(t *ntt.Table, a, b []uint64) answer { return answer{word: t.P()} },
		"Root":    func(t *ntt.Table, a, b []uint64) answer { return answer{word: t.Root()} },
		"Go":      func(t *ntt.Table, a, b []uint64) answer { return listOr(t.Go(a)) },
		"Back":    func(t *ntt.Table, a, b []uint64) answer { return listOr(t.Back(a)) },
		"Round":   func(t *ntt.Table, a, b []uint64) answer { return listOr(t.Round(a, b)) },
		"Product": func(t *ntt.Table, a, b []uint64) answer { return listOr(t.Product(a, b)) },
	}
}

// fails are the calls that answer an error.
func fails(name string) bool {
	return slices.Contains([]string{"Go", "Back", "Round", "Product"}, name)
}

// gifts are lists of all lengths that a table of four numbers takes, and of others.
func gifts() [][]uint64 {
	return [][]uint64{
		nil, {}, {0}, {math.MaxUint64}, {1, 2}, {0, 1}, {3, 4, 5}, {1, 2, 0, 0}, {18, 19, 17, 34}, {0, 0, 0, 0}, {5, math.MaxUint64, 1 << 63, 7},
		{1, 2, 3, 4, 5}, {9, 8, 7, 6, 5, 4, 3, 2, 1},
	}
}

func eachCall(do func(name string, call func(t *ntt.Table, a, b []uint64) answer, a, b []uint64)) {
	for name, call := range calls() {
		for _, a := range gifts() {
			for _, b := range gifts() {
				do(name, call, a, b)
			}
		}
	}
}

// tables are of one number, two and four, of small primes and of the greatest.
func tables(t *testing.T) []*ntt.Table {
	t.Helper()
	return []*ntt.Table{tableOf(t, 2, 0), tableOf(t, 3, 1), tableOf(t, 17, 2), tableOf(t, greatPrimes(t)[0], 2), tableOf(t, 1<<63-25, 1)}
}

func TestNilTables(t *testing.T) { // P6.1, R1
	var none *ntt.Table
	eachCall(func(name string, call func(t *ntt.Table, a, b []uint64) answer, a, b []uint64) {
		want := answer{}
		if fails(name) {
			want.err = api.ErrNil
		}
		if got := call(none, a, b); !got.matches(want) {
			t.Errorf("%s of a nil table, %d and %d: got %v, want %v", name, a, b, got, want)
		}
	})
}

func TestErrorsStandAlone(t *testing.T) { // R1
	for _, table := range tables(t) {
		eachCall(func(name string, call func(t *ntt.Table, a, b []uint64) answer, a, b []uint64) {
			got := call(table, a, b)
			if got.err != api.OK && len(got.list) != 0 {
				t.Errorf("%s of %d and %d: got %v beside an error", name, a, b, got)
			}
			if !slices.Contains([]api.Errno{api.OK, api.ErrArg, api.ErrLimit}, got.err) {
				t.Errorf("%s of %d and %d: got the error %d", name, a, b, int(got.err))
			}
		})
	}
}

func TestAnswersAreBelow(t *testing.T) { // P6.2, P6.3
	for _, table := range tables(t) {
		eachCall(func(name string, call func(t *ntt.Table, a, b []uint64) answer, a, b []uint64) {
			got := call(table, a, b)
			for _, x := range got.list {
				if x >= table.P() {
					t.Errorf("modulo %d: %s of %d and %d: got %d", table.P(), name, a, b, got.list)
				}
			}
			left := call(table, leftBy(a, table.P()), leftBy(b, table.P()))
			if !left.matches(got) {
				t.Errorf("modulo %d: %s of %d and %d: got %v, and %v of what is left of them", table.P(), name, a, b, got, left)
			}
		})
	}
}

// behind is a list with something behind its length, and all of it.
func behind(l []uint64) (list, whole []uint64) {
	whole = append(slices.Clone(l), 0xdeadbeef, 5, 0, 77, 1)
	return whole[:len(l)], whole
}

func overwrite(l []uint64) {
	l = l[:cap(l)]
	for i := range l {
		l[i] = ^l[i]
	}
}

func TestNothingIsWrittenInto(t *testing.T) { // R2
	for _, table := range tables(t) {
		eachCall(func(name string, call func(t *ntt.Table, a, b []uint64) answer, a, b []uint64) {
			want := call(table, a, b)
			handedA, wholeA := behind(a)
			handedB, wholeB := behind(b)
			keptA, keptB := slices.Clone(wholeA), slices.Clone(wholeB)
			if got := call(table, handedA, handedB); !got.matches(want) {
				t.Errorf("%s of %d and %d: got %v, then %v", name, a, b, want, got)
			}
			if !slices.Equal(wholeA, keptA) || !slices.Equal(wholeB, keptB) {
				t.Errorf("%s writes into %d or %d", name, a, b)
			}
		})
	}
}

func TestAnswersAreTheCallers(t *testing.T) { // R2
	for _, table := range tables(t) {
		eachCall(func(name string, call func(t *ntt.Table, a, b []uint64) answer, a, b []uint64) {
			handedA, handedB := slices.Clone(a), slices.Clone(b)
			first, second := call(table, handedA, handedB), call(table, handedA, handedB)
			want := answer{first.word, slices.Clone(first.list), first.err}
			overwrite(first.list)
			if !slices.Equal(handedA, a) || !slices.Equal(handedB, b) || !second.matches(want) {
				t.Errorf("%s of %d and %d answers what is another's", name, a, b)
			}
			overwrite(handedA)
			overwrite(handedB)
			if !second.matches(want) {
				t.Errorf("%s answers a piece of %d or %d", name, a, b)
			}
			if third := call(table, a, b); !third.matches(want) {
				t.Errorf("%s of %d and %d: got %v after its answer was written into, want %v", name, a, b, third, want)
			}
		})
	}
}

func TestAnswersHangOnArgumentsAlone(t *testing.T) { // R3
	for _, table := range tables(t) {
		eachCall(func(name string, call func(t *ntt.Table, a, b []uint64) answer, a, b []uint64) {
			want := call(table, a, b)
			call(table, b, a)
			fresh := tableOf(t, table.P(), table.K())
			if got, again := call(fresh, a, b), call(table, a, b); !got.matches(want) || !again.matches(want) {
				t.Errorf("%s of %d and %d: got %v, then %v, and %v of another table", name, a, b, want, again, got)
			}
		})
	}
}

func TestTablesDoNotMeet(t *testing.T) { // R3
	four, sixteen, other := tableOf(t, 17, 2), tableOf(t, 17, 4), tableOf(t, 97, 2)
	l := []uint64{1, 2, 0, 0}
	want := []uint64{3, 10, 16, 9}
	if _, err := ntt.New(17, 5); err != api.ErrArg {
		t.Errorf("New(17, 5): error %d", int(err))
	}
	for range 2 {
		goOf(t, sixteen, make([]uint64, 16))
		goOf(t, other, l)
		if got := goOf(t, four, l); !slices.Equal(got, want) || four.K() != 2 || four.P() != 17 || four.Root() != 13 {
			t.Errorf("Go of %d beside other tables: got %d, want %d", l, got, want)
		}
	}
}

func TestOneTableForMany(t *testing.T) { // R3
	s := source(31)
	table := tableOf(t, greatPrimes(t)[0], 10)
	a, b := s.words(1<<10), s.words(1<<10)
	half, rest := a[:1<<9], b[:1<<9]
	want := map[string]answer{}
	for name, call := range calls() {
		want[name] = call(table, a, b)
	}
	product := listOr(table.Product(half, rest))
	var group sync.WaitGroup
	for range 8 {
		group.Go(func() {
			for name, call := range calls() {
				if got := call(table, a, b); !got.matches(want[name]) {
					t.Errorf("%s beside others answers something else", name)
				}
			}
			if got := listOr(table.Product(half, rest)); !got.matches(product) {
				t.Error("Product of halves beside others answers something else")
			}
		})
	}
	group.Wait()
}
