package roots_test

import (
	"slices"
	"testing"

	"vinculum/api"
	"vinculum/roots"
)

// often is how often each number is among some, modulo p.
func often(l row, p uint64) map[uint64]int {
	times := map[uint64]int{}
	for _, x := range l {
		times[x%p]++
	}
	return times
}

// wantBack holds the roots of From of some numbers against these.
func wantBack(t *testing.T, p uint64, l, seeds row) {
	t.Helper()
	a, err := roots.From(p, l)
	if err != api.OK {
		t.Fatalf("From: error %d", int(err))
	}
	times := often(l, p)
	var once row
	for x, n := range times {
		once = append(once, x)
		wantTimes(t, p, a, x, n)
		wantTimes(t, p, a, x+1, times[(x+1)%p])
	}
	slices.Sort(once)
	wantRoots(t, p, a, seeds, once)
	product, err := roots.From(p, once)
	if err != api.OK {
		t.Fatalf("From: error %d", int(err))
	}
	wantLinear(t, p, a, product)
}

func TestRootsAreTheNumbers(t *testing.T) { // P11.3
	s := source(31)
	for _, p := range primes() {
		seeds := append(seedsTo(min(p, 100)), s.words(60)...)
		for n := range 30 {
			wantBack(t, p, s.words(n), seeds)
			// Some that come several times.
			l := s.words(n)
			for range n {
				l = append(l, l[s.below(len(l))])
			}
			wantBack(t, p, l, seeds)
		}
	}
}

func TestAllListsOfSmallNumbers(t *testing.T) { // P11.3
	for _, c := range []struct {
		p uint64
		n int
	}{{2, 7}, {3, 5}, {5, 4}, {7, 3}} {
		for n := range c.n + 1 {
			for _, l := range allOf(c.p, n) {
				wantBack(t, c.p, l, seedsTo(c.p))
			}
		}
	}
}

func TestRootsAtTheLimitOfFrom(t *testing.T) { // P11.3
	s := source(32)
	l := make(row, 2000)
	for i := range l {
		l[i] = s.word()
	}
	a, err := roots.From(greatest, l)
	if err != api.OK {
		t.Fatalf("From: error %d", int(err))
	}
	for i := range l {
		l[i] %= greatest
	}
	slices.Sort(l)
	wantRoots(t, greatest, a, s.words(80), slices.Compact(l))
}

func TestRootsDoNotHangOnTheSeeds(t *testing.T) { // P11.2: whichever seeds tell them apart, in whichever order
	s := source(33)
	for _, p := range primes() {
		a := append(s.words(12), 1)
		seeds := append(seedsTo(min(p, 100)), s.words(60)...)
		want, err := roots.Roots(p, a, seeds)
		if err != api.OK {
			t.Fatalf("Roots: error %d", int(err))
		}
		slices.Reverse(seeds)
		wantRoots(t, p, a, seeds, want)
		wantRoots(t, p, a, append(seeds, seeds...), want)
		for i := range seeds {
			seeds[i] %= p
		}
		wantRoots(t, p, a, seeds, want)
	}
}
