package crt_test

import (
	"math"
	"slices"
	"sync"
	"testing"

	"vinculum/api"
	"vinculum/bigint"
	"vinculum/crt"
)

// answer is what a call answers, numbers as texts.
type answer struct {
	x, all string
	list   []uint64
	is     bool
	err    api.Errno
}

func (a answer) matches(b answer) bool {
	return a.x == b.x && a.all == b.all && slices.Equal(a.list, b.list) && a.is == b.is && a.err == b.err
}

func (a answer) empty() bool {
	return (a.x == "" || a.x == "0") && (a.all == "" || a.all == "0") && len(a.list) == 0 && !a.is
}

func numberOr(x bigint.Int, err api.Errno) answer { return answer{x: x.Print(), err: err} }

func numbersOr(x, all bigint.Int, err api.Errno) answer {
	return answer{x: x.Print(), all: all.Print(), err: err}
}

// given is what calls are handed.
type given struct {
	x, all bigint.Int
	l, m   []uint64
	r, w   uint64
	bits   int
}

// calls are all of the package.
func calls() map[string]func(g given) answer {
	return map[string]func(g given) answer{
		"Parts": func(g given) answer {
			l, err := crt.Parts(g.x, g.m)
			return answer{list: l, err: err}
		},
		"Lift":   func(g given) answer { return numbersOr(crt.Lift(g.l, g.m)) },
		"Near":   func(g given) answer { return numberOr(crt.Near(g.x, g.all)) },
		"Join":   func(g given) answer { return numberOr(crt.Join(g.l, g.m)) },
		"Enough": func(g given) answer { return answer{is: crt.Enough(g.bits, g.m)} },
		"Step":   func(g given) answer { return numbersOr(crt.Step(g.x, g.all, g.r, g.w)) },
	}
}

// gifts are arguments at the edges of all kinds.
func gifts(t *testing.T) []given {
	numbers := []bigint.Int{
		{}, bigint.Of(1), bigint.Of(-1), bigint.Of(35), bigint.Of(-35), bigint.Of(math.MaxInt), bigint.Of(math.MinInt),
		parsed(t, "18446744073709551616"), parsed(t, "-340282366920938463463374607431768211456"),
	}
	lists := [][]uint64{
		nil, {}, {0}, {1}, {2}, {3, 5}, {4, 6}, {5, 7, 9}, {1<<63 - 1, 1<<63 - 2}, {1 << 63}, {5, math.MaxUint64}, {0, 0, 0}, {6, 35, 143},
	}
	words := []uint64{0, 1, 2, 6, 35, 1<<63 - 1, 1 << 63, math.MaxUint64}
	bits := []int{math.MinInt, -1, 0, 1, 7, 100000, 100001, math.MaxInt}
	var all []given
	for i, x := range numbers {
		for j, y := range numbers {
			for k, l := range lists {
				for n, m := range lists {
					at := i + 3*j + 5*k + 7*n
					all = append(all, given{x, y, l, m, words[at%len(words)], words[at/2%len(words)], bits[at/3%len(bits)]})
				}
			}
		}
	}
	return all
}

func TestErrorsStandAlone(t *testing.T) { // R1
	for _, g := range gifts(t) {
		for name, call := range calls() {
			got := call(g)
			if got.err != api.OK && !got.empty() {
				t.Errorf("%s of %v: got %v beside an error", name, g, got)
			}
			if !slices.Contains([]api.Errno{api.OK, api.ErrArg, api.ErrInexact, api.ErrLimit}, got.err) {
				t.Errorf("%s of %v: got the error %d", name, g, int(got.err))
			}
		}
	}
}

// behind is a list with something behind its length, and all of it.
func behind(l []uint64) (list, whole []uint64) {
	whole = append(slices.Clone(l), 0xdeadbeef, 5, 0)
	return whole[:len(l)], whole
}

func TestNothingIsWrittenInto(t *testing.T) { // R2
	for _, g := range gifts(t) {
		for name, call := range calls() {
			var allOfL, allOfM []uint64
			want := call(g)
			handed := g
			handed.l, allOfL = behind(g.l)
			handed.m, allOfM = behind(g.m)
			keptL, keptM := slices.Clone(allOfL), slices.Clone(allOfM)
			x, all := g.x.Print(), g.all.Print()
			got := call(handed)
			if !got.matches(want) {
				t.Errorf("%s of %v: got %v, then %v", name, g, want, got)
			}
			if !slices.Equal(allOfL, keptL) || !slices.Equal(allOfM, keptM) || g.x.Print() != x || g.all.Print() != all {
				t.Errorf("%s writes into %v", name, g)
			}
		}
	}
}

func TestPartsAreTheCallers(t *testing.T) { // R2
	x := bigint.Of(1000)
	m := []uint64{7, 11, 13}
	first, _ := crt.Parts(x, m)
	second, _ := crt.Parts(x, m)
	want := []uint64{6, 10, 12}
	for _, l := range [][]uint64{m, first[:cap(first)]} {
		for i := range l {
			l[i] = 4
		}
		if !slices.Equal(second, want) {
			t.Fatalf("Parts: got %d after another list was written into, want %d", second, want)
		}
	}
	if third, _ := crt.Parts(x, []uint64{7, 11, 13}); !slices.Equal(third, want) {
		t.Errorf("Parts after an answer was written into: got %d, want %d", third, want)
	}
}

func TestNumbersAreTheCallers(t *testing.T) { // R2
	l, m := []uint64{2, 3}, []uint64{5, 7}
	x, all, err := crt.Lift(l, m)
	y, otherErr := crt.Join(l, m)
	l[0], l[1], m[0], m[1] = 9, 9, 9, 9
	if x.Print() != "17" || all.Print() != "35" || y.Print() != "17" || err != api.OK || otherErr != api.OK {
		t.Errorf("Lift and Join: got %s, %s and %s after the lists were written into", x.Print(), all.Print(), y.Print())
	}
}

func TestAnswersHangOnArgumentsAlone(t *testing.T) { // R3
	all := gifts(t)
	want := map[string][]answer{}
	for name, call := range calls() {
		for _, g := range all {
			want[name] = append(want[name], call(g))
		}
	}
	var group sync.WaitGroup
	for range 4 {
		group.Go(func() {
			for name, call := range calls() {
				for i, g := range all {
					if got := call(g); !got.matches(want[name][i]) {
						t.Errorf("%s of %v: got %v, then %v", name, g, want[name][i], got)
					}
				}
			}
		})
	}
	group.Wait()
}
