package ntt_test

import (
	"math"
	"math/bits"
	"slices"
	"testing"

	"vinculum/api"
	"vinculum/ntt"
	"vinculum/prime"
)

// source is numbers that look like any others, the same ones in every run.
type source uint64

func (s *source) word() uint64 {
	*s += 0x9e3779b97f4a7c15
	w := uint64(*s)
	w = (w ^ w>>30) * 0xbf58476d1ce4e5b9
	w = (w ^ w>>27) * 0x94d049bb133111eb
	return w ^ w>>31
}

// words are any, far beyond p too, with 0 and the greatest word among them.
func (s *source) words(n int) []uint64 {
	l := make([]uint64, n)
	for i := range l {
		switch l[i] = s.word(); l[i] % 8 {
		case 0:
			l[i] = 0
		case 1:
			l[i] = math.MaxUint64
		}
	}
	return l
}

// size is a prime and a k for which there is a table.
type size struct {
	p uint64
	k int
}

// greatPrimes are the greatest below 2 to the 63rd and 32nd that have every table.
func greatPrimes(t *testing.T) []uint64 {
	t.Helper()
	var list []uint64
	for _, below := range []uint64{1 << 63, 1 << 32} {
		l, err := prime.Scan(20, 1, below)
		if err != api.OK {
			t.Fatalf("Scan(20, 1, %d): error %d", below, int(err))
		}
		list = append(list, l...)
	}
	return list
}

// sizes are all there are, up to a k, of small primes, of Fermat's and of great ones.
func sizes(t *testing.T, most int) []size {
	t.Helper()
	primes := append(greatPrimes(t), 2, 3, 5, 7, 11, 13, 17, 97, 193, 257, 7681, 12289, 65537, 998244353, 1<<61-1, 1<<63-25)
	var list []size
	for _, p := range primes {
		for k := range min(most, bits.TrailingZeros64(p-1)) + 1 {
			list = append(list, size{p, k})
		}
	}
	return list
}

func tableOf(t *testing.T, p uint64, k int) *ntt.Table {
	t.Helper()
	table, err := ntt.New(p, k)
	if err != api.OK || table == nil {
		t.Fatalf("New(%d, %d): error %d", p, k, int(err))
	}
	return table
}

// times is the product of x and y modulo p, by other means than the program's.
func times(x, y, p uint64) uint64 {
	high, low := bits.Mul64(x%p, y%p)
	return bits.Rem64(high, low, p)
}

func plus(x, y, p uint64) uint64 { return (x%p + y%p) % p }

// valueAt is that of a polynomial at x.
func valueAt(l []uint64, x, p uint64) uint64 {
	y := uint64(0)
	for i := len(l) - 1; i >= 0; i-- {
		y = plus(times(y, x, p), l[i], p)
	}
	return y
}

// valuesAt are those of a polynomial at the powers of a root, as many as it has
// coefficients.
func valuesAt(l []uint64, root, p uint64) []uint64 {
	values := make([]uint64, len(l))
	x := uint64(1)
	for i := range values {
		values[i] = valueAt(l, x, p)
		x = times(x, root, p)
	}
	return values
}

func leftBy(l []uint64, p uint64) []uint64 {
	left := make([]uint64, len(l))
	for i, x := range l {
		left[i] = x % p
	}
	return left
}

func wantList(t *testing.T, s size, what string, got []uint64, err api.Errno, want []uint64) {
	t.Helper()
	if err != api.OK || !slices.Equal(got, want) {
		if len(want) > 16 {
			t.Errorf("p %d, k %d: %s: got other numbers (%d of them, error %d)", s.p, s.k, what, len(got), int(err))
			return
		}
		t.Errorf("p %d, k %d: %s: got %d, error %d, want %d", s.p, s.k, what, got, int(err), want)
	}
}

func wantErr(t *testing.T, s size, what string, got []uint64, err, want api.Errno) {
	t.Helper()
	if err != want || len(got) != 0 {
		t.Errorf("p %d, k %d: %s: got %d numbers, error %d, want the error %d", s.p, s.k, what, len(got), int(err), int(want))
	}
}

func TestNew(t *testing.T) { // P6.1
	for _, s := range append(sizes(t, 12), size{998244353, 20}, size{greatPrimes(t)[0], 20}, size{greatPrimes(t)[0], 19}) {
		table := tableOf(t, s.p, s.k)
		root, err := prime.Root(s.p, s.k)
		if err != api.OK || table.K() != s.k || table.P() != s.p || table.Root() != root {
			t.Errorf("New(%d, %d): got k %d, p %d, the root %d, want the root %d", s.p, s.k, table.K(), table.P(), table.Root(), root)
		}
	}
	if root := tableOf(t, 17, 2).Root(); root != 13 {
		t.Errorf("New(17, 2): got the root %d, want 13", root)
	}
}

func TestNewErrors(t *testing.T) { // P6.1: the first that is named is answered
	great := greatPrimes(t)[0]
	cases := []struct {
		p    uint64
		k    int
		want api.Errno
	}{
		{17, 21, api.ErrLimit}, {998244353, 21, api.ErrLimit}, {great, 21, api.ErrLimit}, {17, 64, api.ErrLimit}, {17, math.MaxInt, api.ErrLimit},
		{15, 21, api.ErrLimit}, {0, 21, api.ErrLimit}, {1, math.MaxInt, api.ErrLimit}, {math.MaxUint64, 21, api.ErrLimit}, {1 << 63, 63, api.ErrLimit},
		{0, 0, api.ErrPrime}, {1, 0, api.ErrPrime}, {4, 0, api.ErrPrime}, {15, 1, api.ErrPrime}, {561, 4, api.ErrPrime}, {65536, 20, api.ErrPrime},
		{0, -1, api.ErrPrime}, {1, 20, api.ErrPrime}, {15, -1, api.ErrPrime}, {15, 20, api.ErrPrime}, {9, math.MinInt, api.ErrPrime},
		{1<<63 - 1, 0, api.ErrPrime}, {1 << 63, 0, api.ErrPrime}, {18446744069414584321, 20, api.ErrPrime}, {18446744073709551557, 0, api.ErrPrime},
		{math.MaxUint64, 0, api.ErrPrime},
		{17, -1, api.ErrArg}, {17, math.MinInt, api.ErrArg}, {2, -1, api.ErrArg}, {great, -1, api.ErrArg},
		{17, 5, api.ErrArg}, {17, 20, api.ErrArg}, {2, 1, api.ErrArg}, {2, 20, api.ErrArg}, {3, 2, api.ErrArg}, {7, 2, api.ErrArg}, {65537, 17, api.ErrArg},
		{12289, 13, api.ErrArg}, {1<<63 - 25, 2, api.ErrArg}, {1<<61 - 1, 2, api.ErrArg},
		{17, 4, api.OK}, {2, 0, api.OK}, {3, 1, api.OK}, {65537, 16, api.OK}, {12289, 12, api.OK}, {1<<63 - 25, 1, api.OK},
	}
	for _, c := range cases {
		table, err := ntt.New(c.p, c.k)
		if err != c.want || (table == nil) != (c.want != api.OK) {
			t.Errorf("New(%d, %d): got a table: %t, error %d, want %d", c.p, c.k, table != nil, int(err), int(c.want))
		}
	}
}

func TestGoAndBack(t *testing.T) { // P6.2
	cases := []struct {
		size
		l, values []uint64
	}{
		{size{17, 2}, []uint64{1, 2, 0, 0}, []uint64{3, 10, 16, 9}}, {size{17, 2}, []uint64{18, 19, 17, 34}, []uint64{3, 10, 16, 9}},
		{size{17, 2}, []uint64{0, 0, 0, 0}, []uint64{0, 0, 0, 0}}, {size{17, 2}, []uint64{5, 0, 0, 0}, []uint64{5, 5, 5, 5}},
		{size{17, 2}, []uint64{0, 1, 0, 0}, []uint64{1, 13, 16, 4}}, {size{17, 2}, []uint64{0, 0, 1, 0}, []uint64{1, 16, 1, 16}},
		{size{17, 2}, []uint64{0, 0, 0, 1}, []uint64{1, 4, 16, 13}}, {size{17, 2}, []uint64{1, 1, 1, 1}, []uint64{4, 0, 0, 0}},
		{size{2, 0}, []uint64{7}, []uint64{1}}, {size{2, 0}, []uint64{math.MaxUint64 - 1}, []uint64{0}}, {size{7, 0}, []uint64{9}, []uint64{2}},
		{size{3, 1}, []uint64{2, 1}, []uint64{0, 1}}, {size{3, 1}, []uint64{1, 2}, []uint64{0, 2}}, {size{5, 2}, []uint64{0, 1, 0, 0}, []uint64{1, 2, 4, 3}},
	}
	for _, c := range cases {
		table := tableOf(t, c.p, c.k)
		got, err := table.Go(c.l)
		wantList(t, c.size, "Go", got, err, c.values)
		got, err = table.Back(c.values)
		wantList(t, c.size, "Back", got, err, leftBy(c.l, c.p))
	}
}

func TestGoIsTheValues(t *testing.T) { // P6.2
	s := source(1)
	for _, z := range sizes(t, 7) {
		table := tableOf(t, z.p, z.k)
		root, _ := prime.Root(z.p, z.k)
		for range 8 {
			l := s.words(1 << z.k)
			got, err := table.Go(l)
			wantList(t, z, "Go", got, err, valuesAt(l, root, z.p))
		}
	}
}

func TestBackHasTheValues(t *testing.T) { // P6.2: and there is one such polynomial alone
	s := source(2)
	for _, z := range sizes(t, 7) {
		table := tableOf(t, z.p, z.k)
		root, _ := prime.Root(z.p, z.k)
		for range 8 {
			l := s.words(1 << z.k)
			got, err := table.Back(l)
			wantList(t, z, "what Back answers, at the powers", valuesAt(got, root, z.p), err, leftBy(l, z.p))
			wantList(t, z, "what Back answers, taken by p", got, err, leftBy(got, z.p))
		}
	}
}

func TestAllSmallPolynomials(t *testing.T) { // P6.2
	for _, z := range []size{{2, 0}, {3, 0}, {3, 1}, {5, 0}, {5, 1}, {5, 2}, {7, 1}, {13, 2}, {17, 0}, {17, 1}} {
		table := tableOf(t, z.p, z.k)
		root, _ := prime.Root(z.p, z.k)
		l := make([]uint64, 1<<z.k)
		for {
			values, err := table.Go(l)
			wantList(t, z, "Go", values, err, valuesAt(l, root, z.p))
			back, err := table.Back(values)
			wantList(t, z, "Back", back, err, l)
			if !next(l, z.p) {
				break
			}
		}
	}
}

// next makes of l the next list of numbers below p, if there is one.
func next(l []uint64, p uint64) bool {
	for i := range l {
		if l[i]++; l[i] < p {
			return true
		}
		l[i] = 0
	}
	return false
}

func TestGreatestTables(t *testing.T) { // P6.2, at the limit of k
	s := source(3)
	for _, p := range append(greatPrimes(t), 998244353) {
		z := size{p, 20}
		table := tableOf(t, z.p, z.k)
		root, _ := prime.Root(z.p, z.k)
		l := s.words(1 << 20)
		values, err := table.Go(l)
		if err != api.OK || len(values) != 1<<20 {
			t.Fatalf("p %d: Go of 2 to the 20th: %d numbers, error %d", p, len(values), int(err))
		}
		for _, i := range []int{0, 1, 2, 3, 1<<19 - 1, 1 << 19, 1<<19 + 1, 777777, 1<<20 - 1} {
			if want := valueAt(l, power(root, i, p), p); values[i] != want {
				t.Errorf("p %d: Go of 2 to the 20th: got %d at %d, want %d", p, values[i], i, want)
			}
		}
		back, err := table.Back(values)
		wantList(t, z, "Back of Go", back, err, leftBy(l, p))
	}
}

func power(x uint64, n int, p uint64) uint64 {
	y := 1 % p
	for range n {
		y = times(y, x, p)
	}
	return y
}

// wrongLengths are those that no list of a table has.
func wrongLengths(k int) []int {
	var list []int
	for _, n := range []int{0, 1, 1<<k - 1, 1<<k + 1, 2 << k, 1 << k / 2, 3 << k, 2, 1 << 20} {
		if n != 1<<k {
			list = append(list, n)
		}
	}
	return list
}

func TestWrongLengths(t *testing.T) { // P6.2, P6.3
	for _, z := range []size{{2, 0}, {17, 0}, {17, 1}, {17, 2}, {17, 4}, {998244353, 10}} {
		table := tableOf(t, z.p, z.k)
		right := make([]uint64, 1<<z.k)
		for _, n := range wrongLengths(z.k) {
			wrong := make([]uint64, n)
			got, err := table.Go(wrong)
			wantErr(t, z, "Go", got, err, api.ErrArg)
			got, err = table.Back(wrong)
			wantErr(t, z, "Back", got, err, api.ErrArg)
			for _, lists := range [][2][]uint64{{wrong, right}, {right, wrong}, {wrong, wrong}, {wrong, nil}, {nil, wrong}} {
				got, err = table.Round(lists[0], lists[1])
				wantErr(t, z, "Round", got, err, api.ErrArg)
			}
		}
		got, err := table.Go(nil)
		wantErr(t, z, "Go of nil", got, err, api.ErrArg)
		got, err = table.Back(nil)
		wantErr(t, z, "Back of nil", got, err, api.ErrArg)
	}
}
