package prime_test

import (
	"math"
	"slices"
	"sync"
	"testing"

	"vinculum/api"
	"vinculum/prime"
)

// answer is what a call answers.
type answer struct {
	is   bool
	word uint64
	k    int
	list []uint64
	err  api.Errno
}

func (a answer) matches(b answer) bool {
	return a.is == b.is && a.word == b.word && a.k == b.k && slices.Equal(a.list, b.list) && a.err == b.err
}

func (a answer) empty() bool { return !a.is && a.word == 0 && a.k == 0 && len(a.list) == 0 }

// calls are all of the package, each made a call of a word, a number and a word.
func calls() map[string]func(n uint64, k int, x uint64) answer {
	return map[string]func(n uint64, k int, x uint64) answer{
		"Is": func(n uint64, k int, x uint64) answer { return answer{is: prime.Is(n)} },
		"Next": func(n uint64, k int, x uint64) answer {
			got, err := prime.Next(n)
			return answer{word: got, err: err}
		},
		"Scan": func(n uint64, k int, x uint64) answer {
			got, err := prime.Scan(k, int(x), n)
			return answer{list: got, err: err}
		},
		"Root": func(n uint64, k int, x uint64) answer {
			got, err := prime.Root(n, k)
			return answer{word: got, err: err}
		},
		"Order": func(n uint64, k int, x uint64) answer {
			got, err := prime.Order(n, x)
			return answer{k: got, err: err}
		},
	}
}

// eachCall goes through all calls, with arguments at the edges of all kinds.
func eachCall(f func(name string, call func(n uint64, k int, x uint64) answer, n uint64, k int, x uint64)) {
	words := []uint64{
		0, 1, 2, 3, 4, 17, 34, 97, 561, 65537, 998244353, 1<<32 - 1, 1 << 32, highestBelow, 1<<63 - 1, 1 << 63, 1<<63 + 1,
		18446744069414584321, highest, math.MaxUint64 - 1, math.MaxUint64,
	}
	numbers := []int{math.MinInt, -1, 0, 1, 2, 4, 16, 23, 39, 40, 41, 62, 63, 64, 65, math.MaxInt}
	for name, call := range calls() {
		for _, n := range words {
			for _, k := range numbers {
				for _, x := range []uint64{0, 1, 2, 16, 64, 65, n - 1, n, n + 1, 1 << 63, math.MaxUint64} {
					f(name, call, n, k, x)
				}
			}
		}
	}
}

func TestErrorsStandAlone(t *testing.T) { // R1
	eachCall(func(name string, call func(n uint64, k int, x uint64) answer, n uint64, k int, x uint64) {
		got := call(n, k, x)
		if got.err != api.OK && !got.empty() {
			t.Errorf("%s of %d, %d and %d: got %v beside an error", name, n, k, x, got)
		}
		if !slices.Contains([]api.Errno{api.OK, api.ErrArg, api.ErrNone, api.ErrPrime}, got.err) {
			t.Errorf("%s of %d, %d and %d: got the error %d", name, n, k, x, int(got.err))
		}
	})
}

func TestAnswersHangOnArgumentsAlone(t *testing.T) { // R3
	want := map[string][]answer{}
	eachCall(func(name string, call func(n uint64, k int, x uint64) answer, n uint64, k int, x uint64) {
		want[name] = append(want[name], call(n, k, x))
	})
	var group sync.WaitGroup
	for range 4 {
		group.Go(func() {
			at := map[string]int{}
			eachCall(func(name string, call func(n uint64, k int, x uint64) answer, n uint64, k int, x uint64) {
				if got := call(n, k, x); !got.matches(want[name][at[name]]) {
					t.Errorf("%s of %d, %d and %d: got %v, then %v", name, n, k, x, want[name][at[name]], got)
				}
				at[name]++
			})
		})
	}
	group.Wait()
}

func TestScansAreTheCallers(t *testing.T) { // R2
	first, err := prime.Scan(20, 3, 1<<62)
	second, otherErr := prime.Scan(20, 3, 1<<62)
	if err != api.OK || otherErr != api.OK {
		t.Fatalf("Scan(20, 3, 2 to the 62nd): errors %d and %d", int(err), int(otherErr))
	}
	want := slices.Clone(second)
	whole := first[:cap(first)]
	for i := range whole {
		whole[i] = 4
	}
	if !slices.Equal(second, want) {
		t.Error("two answers of Scan share memory")
	}
	if third, _ := prime.Scan(20, 3, 1<<62); !slices.Equal(third, want) {
		t.Errorf("Scan after its answer was written into: got %d, want %d", third, want)
	}
}
