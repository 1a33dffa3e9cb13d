package heap_test

import (
	"math/bits"
	"slices"
	"testing"

	"vinculum/heap"
)

// source is numbers that look like any others, the same ones in every run.
type source uint64

func (s *source) word() uint64 {
	*s += 0x9e3779b97f4a7c15
	w := uint64(*s)
	w = (w ^ w>>30) * 0xbf58476d1ce4e5b9
	w = (w ^ w>>27) * 0x94d049bb133111eb
	return w ^ w>>31
}

// below is a number from 0 to n less 1.
func (s *source) below(n int) int { return int(s.word() % uint64(n)) }

// thing is a number, and a name by which it is told from others with the same number.
type thing struct{ number, name int }

type ahead = func(a, b thing) bool

func less(a, b thing) bool { return a.number < b.number }

// orders are such in which of two numbers one stands ahead, such in which some stand beside one another, and such in which a third one may stand ahead of one of these alone.
func orders() map[string]ahead {
	return map[string]ahead{
		"less":        less,
		"more":        func(a, b thing) bool { return a.number > b.number },
		"less, names": func(a, b thing) bool { return a.number < b.number || a.number == b.number && a.name < b.name },
		"tens":        func(a, b thing) bool { return a.number/10 < b.number/10 },
		"odd":         func(a, b thing) bool { return a.number%2 > b.number%2 },
		"none":        func(a, b thing) bool { return false },
		"divides":     func(a, b thing) bool { return a.number > 0 && a.number != b.number && b.number%a.number == 0 },
		"both parts": func(a, b thing) bool {
			return a.number%10 <= b.number%10 && a.number/10 <= b.number/10 && a.number != b.number
		},
		"all bits":     func(a, b thing) bool { return a.number&b.number == a.number && a.number != b.number },
		"two chains":   func(a, b thing) bool { return a.number%2 == b.number%2 && a.number < b.number },
		"many chains":  func(a, b thing) bool { return a.number%7 == b.number%7 && a.number > b.number },
		"far":          func(a, b thing) bool { return a.number+5 < b.number },
		"fewer bits":   func(a, b thing) bool { return bits.OnesCount(uint(a.number)) < bits.OnesCount(uint(b.number)) },
		"one ahead":    func(a, b thing) bool { return a.number == 3 && b.number == 5 },
		"one of all":   func(a, b thing) bool { return a.number == 3 && b.number != 3 },
		"one but last": func(a, b thing) bool { return a.number != 3 && b.number == 3 },
	}
}

func TestOrdersAreSome(t *testing.T) { // what the others are held against: none stands ahead of itself, and it goes on
	for name, order := range orders() {
		for i := range 40 * 40 * 40 {
			a, b, c := thing{i % 40, i % 2}, thing{i / 40 % 40, i % 3}, thing{i / 1600, i % 5}
			if order(a, a) || order(a, b) && order(b, c) && !order(a, c) {
				t.Fatalf("%s: %v, %v, %v", name, a, b, c)
			}
		}
	}
}

// wantTop holds what was popped: it was there, and none stands ahead of it that still is. What is left of the things is answered.
func wantTop(t *testing.T, name string, order ahead, there []thing, got thing, is bool) []thing {
	t.Helper()
	place := slices.Index(there, got)
	if !is || place < 0 {
		t.Fatalf("%s: got %v, %t of %v", name, got, is, there)
	}
	for _, x := range there {
		if order(x, got) {
			t.Fatalf("%s: got %v, and %v stands ahead of it, of %v", name, got, x, there)
		}
	}
	return slices.Delete(there, place, place+1)
}

func wantLen[T any](t *testing.T, name string, h *heap.Heap[T], want int) {
	t.Helper()
	if got := h.Len(); got != want {
		t.Fatalf("%s: got Len %d, want %d", name, got, want)
	}
}

func TestExample(t *testing.T) { // P16.1
	h := heap.New(func(a, b int) bool { return a < b })
	for _, x := range []int{3, 1, 2} {
		h.Push(x)
	}
	for _, want := range []int{1, 2, 3} {
		if got, is := h.Pop(); got != want || !is {
			t.Errorf("got %d, %t, want %d", got, is, want)
		}
	}
	if got, is := h.Pop(); got != 0 || is {
		t.Errorf("of none: got %d, %t", got, is)
	}
}

// mixed pushes and pops, now more of these, now more of those.
func mixed(t *testing.T, name string, order ahead, s *source, steps, below int) {
	t.Helper()
	h := heap.New(order)
	var there []thing
	for i := range steps {
		if s.below(8) < 3+2*(i/50%2) {
			x := thing{s.below(below), i}
			h.Push(x)
			there = append(there, x)
		} else if got, is := h.Pop(); len(there) > 0 {
			there = wantTop(t, name, order, there, got, is)
		} else if is || got != (thing{}) {
			t.Fatalf("%s: got %v, %t of none", name, got, is)
		}
		wantLen(t, name, h, len(there))
	}
	for len(there) > 0 {
		got, is := h.Pop()
		there = wantTop(t, name, order, there, got, is)
		wantLen(t, name, h, len(there))
	}
	if got, is := h.Pop(); is || got != (thing{}) {
		t.Fatalf("%s: got %v, %t at last", name, got, is)
	}
}

func TestPushesAndPops(t *testing.T) { // P16.1: whichever order it is
	for name, order := range orders() {
		s := source(1)
		for _, below := range []int{1, 2, 4, 8, 16, 40, 100, 1000} {
			for range 6 {
				mixed(t, name, order, &s, 300, below)
			}
		}
	}
}

// rest are all things of a list but that at a place.
func rest(l []thing, place int) []thing { return slices.Delete(slices.Clone(l), place, place+1) }

// eachRow does something with each order in which a list may be.
func eachRow(l, ahead []thing, do func(row []thing)) {
	if len(l) == 0 {
		do(ahead)
	}
	for i, x := range l {
		eachRow(rest(l, i), append(slices.Clip(ahead), x), do)
	}
}

func TestEachRowOfFewThings(t *testing.T) { // P16.1: six things, pushed one behind the other in all of their 720 orders
	for name, order := range orders() {
		for _, numbers := range [][]int{{1, 2, 3, 4, 5, 6}, {2, 3, 4, 6, 8, 12}, {5, 3, 1, 11, 12, 20}, {3, 3, 5, 5, 7, 7}} {
			var l []thing
			for i, n := range numbers {
				l = append(l, thing{n, i})
			}
			eachRow(l, nil, func(row []thing) {
				h := heap.New(order)
				for _, x := range row {
					h.Push(x)
				}
				for there := slices.Clone(row); len(there) > 0; {
					got, is := h.Pop()
					there = wantTop(t, name, order, there, got, is)
				}
			})
		}
	}
}

func TestWhatStandsBesideBoth(t *testing.T) { // P16.1: 6 stands ahead of 13 alone, and 9 beside both
	far := func(a, b int) bool { return a+5 < b }
	for _, row := range [][]int{{13, 9, 6}, {9, 13, 6}, {6, 9, 13}, {13, 6, 9}, {9, 6, 13}, {6, 13, 9}} {
		h := heap.New(far)
		for _, x := range row {
			h.Push(x)
		}
		var got []int
		for range row {
			x, _ := h.Pop()
			got = append(got, x)
		}
		if slices.Index(got, 6) > slices.Index(got, 13) {
			t.Errorf("%d: got %d", row, got)
		}
	}
}

func TestRowsInOrder(t *testing.T) { // P16.3: what was pushed rising, falling, the same again and again
	const n = 3000
	s := source(2)
	rows := map[string]func(i int) int{
		"rising": func(i int) int { return i }, "falling": func(i int) int { return -i }, "the same": func(i int) int { return 7 }, "up and down": func(i int) int { return min(i, n-i) }, "down and up": func(i int) int { return max(i, n-i) },
		"few": func(i int) int { return i % 3 }, "steps": func(i int) int { return i * 37 % 101 }, "any": func(i int) int { return s.below(n) }, "any words": func(i int) int { return int(s.word()) },
	}
	for name, of := range rows {
		var want []int
		h := heap.New(func(a, b int) bool { return a < b })
		for i := range n {
			x := of(i)
			want = append(want, x)
			h.Push(x)
		}
		slices.Sort(want)
		for i, x := range want {
			wantLen(t, name, h, n-i)
			if got, is := h.Pop(); got != x || !is {
				t.Fatalf("%s: got %d, %t, want %d", name, got, is, x)
			}
		}
		wantLen(t, name, h, 0)
	}
}

func TestEmptyHeaps(t *testing.T) { // P16.1: also once everything was taken out, and it may be filled again then
	h := heap.New(func(a, b string) bool { return a < b })
	for round := range 4 {
		for range 3 {
			if got, is := h.Pop(); got != "" || is {
				t.Errorf("got %q, %t of none", got, is)
			}
			wantLen(t, "none", h, 0)
		}
		for i := range round + 1 {
			h.Push("zyxw"[i : i+1])
		}
		wantLen(t, "filled", h, round+1)
		for i := round; i >= 0; i-- {
			if got, is := h.Pop(); got != "zyxw"[i:i+1] || !is {
				t.Errorf("got %q, %t, want the %dth", got, is, i)
			}
		}
	}
}

// nothingOf holds the calls of a nil heap.
func nothingOf[T comparable](t *testing.T, h *heap.Heap[T], x T) {
	t.Helper()
	var none T
	for range 2 {
		if got, is := h.Pop(); got != none || is || h.Len() != 0 {
			t.Errorf("a nil heap: got %v, %t, Len %d", got, is, h.Len())
		}
		h.Push(x)
	}
}

func TestNilHeaps(t *testing.T) { // P16.1
	if heap.New[int](nil) != nil || heap.New[thing](nil) != nil || heap.New[any](nil) != nil {
		t.Errorf("a heap of a nil function is not nil")
	}
	if heap.New(func(a, b int) bool { return a < b }) == nil || heap.New(func(a, b []int) bool { return false }) == nil {
		t.Errorf("a heap of a function is nil")
	}
	nothingOf(t, heap.New[int](nil), 5)
	nothingOf(t, nil, "text")
	nothingOf(t, heap.New[*int](nil), new(int))
	nothingOf(t, nil, thing{1, 2})
}

func TestThingsOfAnyType(t *testing.T) { // P16.1: they come out as they went in
	lists := heap.New(func(a, b []int) bool { return len(a) < len(b) })
	first, second := []int{1, 2}, []int{1}
	lists.Push(first)
	lists.Push(second)
	lists.Push(nil)
	if got, is := lists.Pop(); got != nil || !is {
		t.Errorf("got %d, %t, want nil", got, is)
	}
	if got, _ := lists.Pop(); &got[0] != &second[0] {
		t.Errorf("got %d, want the second one itself", got)
	}
	if got, _ := lists.Pop(); &got[0] != &first[0] || !slices.Equal(first, []int{1, 2}) {
		t.Errorf("got %d, want the first one itself", got)
	}
	calls := heap.New(func(a, b func() int) bool { return a() < b() })
	for _, n := range []int{3, 1, 2} {
		calls.Push(func() int { return n })
	}
	for want := 1; want <= 3; want++ {
		if got, is := calls.Pop(); !is || got() != want {
			t.Errorf("a function: want %d", want)
		}
	}
	if got, is := calls.Pop(); got != nil || is {
		t.Errorf("a function of none: %t", is)
	}
	empty := heap.New(func(a, b struct{}) bool { return false })
	for range 5 {
		empty.Push(struct{}{})
	}
	wantLen(t, "nothings", empty, 5)
	errs := heap.New(func(a, b error) bool { return false })
	errs.Push(nil)
	if got, is := errs.Pop(); got != nil || !is {
		t.Errorf("a nil error: got %v, %t", got, is)
	}
}

func TestNoughtsAreThings(t *testing.T) { // P16.1: a zero value that was pushed comes with true
	h := heap.New(func(a, b int) bool { return a > b })
	for _, x := range []int{0, 0, -1} {
		h.Push(x)
	}
	for _, want := range []int{0, 0, -1} {
		if got, is := h.Pop(); got != want || !is {
			t.Errorf("got %d, %t, want %d", got, is, want)
		}
	}
}

func TestHeapsBesideOneAnother(t *testing.T) { // R3: each has its own things, and its own order
	up, down := heap.New(func(a, b int) bool { return a < b }), heap.New(func(a, b int) bool { return a > b })
	for i := range 50 {
		up.Push(i * 7 % 50)
		down.Push(i*7%50 + 100)
	}
	for i := range 50 {
		x, _ := up.Pop()
		y, _ := down.Pop()
		if x != i || y != 149-i {
			t.Fatalf("the %dth: got %d and %d", i, x, y)
		}
	}
}

// worst is what a heap of n things may ask, if of each two one stands ahead.
func worst(n int) int { return 4 * n * bits.Len(uint(n)) }

func TestHowOftenAnOrderIsAsked(t *testing.T) { // R1: calls end, also of many things
	const n = 50000
	s := source(3)
	rows := map[string]func(i int) int{"rising": func(i int) int { return i }, "falling": func(i int) int { return -i }, "any": func(i int) int { return s.below(1 << 50) }, "up and down": func(i int) int { return i * (1 - i%2*2) }}
	for name, of := range rows {
		asked := 0
		h := heap.New(func(a, b int) bool { asked++; return a < b })
		for i := range n {
			h.Push(of(i))
		}
		last, _ := h.Pop()
		for i := range n { // as many as there are stay in it
			h.Push(last + of(i)&1023)
			last, _ = h.Pop()
		}
		for h.Len() > 0 {
			last, _ = h.Pop()
		}
		if asked > 2*worst(n) {
			t.Errorf("%s: the order was asked %d times", name, asked)
		}
	}
}

func TestFewThingsBesideOneAnother(t *testing.T) { // R1: where they are in some chains, an order is asked for each of them
	const n, chains = 20000, 5
	asked := 0
	h := heap.New(func(a, b int) bool { asked++; return a%chains == b%chains && a < b })
	for i := range n {
		h.Push(i * 7919 % n)
	}
	for range n {
		h.Pop()
	}
	if asked > 4*chains*worst(n) {
		t.Errorf("the order was asked %d times", asked)
	}
}

func TestFunctionsThatAreNoOrder(t *testing.T) { // R1: all calls end, and each thing comes out once
	calls := 0
	for name, ahead := range map[string]ahead{
		"always": func(a, b thing) bool { return true }, "itself": func(a, b thing) bool { return a.number <= b.number }, "in turn": func(a, b thing) bool { calls++; return calls%2 == 0 }, "now and then": func(a, b thing) bool { calls++; return calls%3 == 0 },
		"in a ring": func(a, b thing) bool { return (a.number+1)%5 == b.number%5 }, "scissors": func(a, b thing) bool { return (b.number-a.number+300)%3 == 1 }, "not the same": func(a, b thing) bool { return a.number != b.number },
	} {
		h := heap.New(ahead)
		came := map[thing]int{}
		for i := range 400 {
			h.Push(thing{i * 13 % 50, i})
			if i%3 == 2 {
				x, is := h.Pop()
				if came[x]++; !is {
					t.Errorf("%s: there is none", name)
				}
			}
		}
		for h.Len() > 0 {
			x, _ := h.Pop()
			came[x]++
		}
		if _, is := h.Pop(); is || len(came) != 400 {
			t.Errorf("%s: %d things came, of 400", name, len(came))
		}
		for x, n := range came {
			if n != 1 || x.number != x.name*13%50 {
				t.Errorf("%s: %v came %d times", name, x, n)
			}
		}
	}
}

func TestOrdersThatAskTheHeap(t *testing.T) { // R1: none of the calls panics, and all of them end
	for name, meddle := range map[string]func(h *heap.Heap[int]){"Len": func(h *heap.Heap[int]) { h.Len() }, "Pop": func(h *heap.Heap[int]) { h.Pop() }, "Push": func(h *heap.Heap[int]) { h.Push(1) }, "both": func(h *heap.Heap[int]) { h.Push(1); h.Push(2); h.Pop() }} {
		var h *heap.Heap[int]
		h = heap.New(func(a, b int) bool {
			if meddle != nil && a%7 == 3 {
				now := meddle
				meddle = nil
				now(h)
				meddle = now
			}
			return a < b
		})
		for i := range 100 {
			h.Push(i * 37 % 100)
		}
		var got []int
		for range 200 {
			if x, is := h.Pop(); is {
				got = append(got, x)
			}
		}
		// What an order that changes the heap comes to is not told.
		if name == "Len" && (len(got) != 100 || !slices.IsSorted(got)) {
			t.Errorf("got %d", got)
		}
	}
}
