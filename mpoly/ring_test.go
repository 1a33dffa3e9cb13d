package mpoly_test

import (
	"math"
	"slices"
	"strings"
	"testing"

	"vinculum/api"
	"vinculum/mpoly"
)

func wantCheck(t *testing.T, r api.Ring, want api.Errno) {
	t.Helper()
	if got := mpoly.Check(r); got != want {
		t.Errorf("Check of %v: got the error %d, want %d", r, int(got), int(want))
	}
}

func TestRingsThatMayBe(t *testing.T) { // P14.1
	for _, r := range rings() {
		wantCheck(t, r, api.OK)
	}
	for _, p := range []uint64{2, 3, 5, 97, 4294967291, greatest} {
		wantCheck(t, api.Ring{P: p, Order: api.Lex}, api.OK)
	}
}

func TestOrdersThatAreNone(t *testing.T) { // P14.1: ErrArg, ahead of the others
	for _, order := range []int{0, -1, 4, 5, math.MinInt, math.MaxInt} {
		for _, vars := range [][]string{nil, {"x"}, {"9"}, {"x", "x"}, make([]string, 9)} {
			for _, p := range []uint64{0, 7, 9} {
				wantCheck(t, api.Ring{P: p, Vars: vars, Order: order}, api.ErrArg)
			}
		}
	}
}

func TestHowManyNames(t *testing.T) { // P14.1
	letters := strings.Split("abcdefghijkl", "")
	for n := range len(letters) + 1 {
		want := api.OK
		if n > mostVars {
			want = api.ErrArg
		}
		wantCheck(t, api.Ring{Vars: letters[:n], Order: api.GrLex}, want)
	}
	for _, vars := range [][]string{make([]string, 9), slices.Repeat([]string{"x"}, 9), make([]string, 1000)} {
		wantCheck(t, api.Ring{P: 9, Vars: vars, Order: api.Lex}, api.ErrArg)
	}
}

// wantNamed holds whether a name may be, wherever it stands.
func wantNamed(t *testing.T, name string, want api.Errno) {
	t.Helper()
	for _, vars := range [][]string{{name}, {name, "q"}, {"q", name}, {"q", "r", "s", "t", "u", "v", "w", name}} {
		wantCheck(t, api.Ring{Vars: vars, Order: api.Lex}, want)
	}
}

func TestNames(t *testing.T) { // P14.1
	for _, name := range []string{"a", "z", "A", "Z", "m", "x1", "x_", "x_1", "xyz", "X9_", "a0", "a9", "a__", strings.Repeat("x", 31), strings.Repeat("x", 32), "x" + strings.Repeat("_", 31), "x" + strings.Repeat("9", 31)} {
		wantNamed(t, name, api.OK)
	}
	for _, name := range []string{"", "_", "_a", "1", "0x", "x ", " x", "x y", "x-", "x.y", "x\n", "x\x00", "é", "xé", "ä1", "ｘ", "xｘ", "α", "x²", "x\xff", "\xff", "x*y", strings.Repeat("x", 33), strings.Repeat("x", 1000), "x" + strings.Repeat("_", 32)} {
		wantNamed(t, name, api.ErrName)
	}
}

func TestNamesByteByByte(t *testing.T) { // P14.1
	const letters, others = "abcdefghijklmnopqrstuvwxyzABCDEFGHIJKLMNOPQRSTUVWXYZ", "0123456789_"
	for b := range 256 {
		name := string([]byte{byte(b)})
		first, later := api.ErrName, api.ErrName
		if strings.Contains(letters, name) {
			first = api.OK
		}
		if strings.Contains(letters+others, name) {
			later = api.OK
		}
		wantCheck(t, api.Ring{Vars: []string{name}, Order: api.Lex}, first)
		for _, text := range []string{"x" + name, "x" + name + "x", "xyz0" + name, strings.Repeat("x", 31) + name} {
			wantCheck(t, api.Ring{Vars: []string{text}, Order: api.Lex}, later)
		}
	}
}

func TestNamesThatAreThereTwice(t *testing.T) { // P14.1
	for _, vars := range [][]string{{"x", "x"}, {"x", "y", "x"}, {"a", "b", "b", "c"}, {"a", "b", "c", "d", "e", "f", "g", "a"}, {"a", "b", "c", "d", "e", "f", "g", "g"}, {"long_1", "long_2", "long_1"}} {
		wantCheck(t, api.Ring{Vars: vars, Order: api.Lex}, api.ErrName)
		wantCheck(t, api.Ring{P: 9, Vars: vars, Order: api.Lex}, api.ErrName)
	}
	for _, vars := range [][]string{{"x", "X"}, {"x", "xx"}, {"x1", "x2", "x_1"}} {
		wantCheck(t, api.Ring{Vars: vars, Order: api.Lex}, api.OK)
	}
}

func TestPrimesThatAreNone(t *testing.T) { // P14.1: behind the other errors
	for _, p := range []uint64{1, 4, 9, 91, 561, 3215031751, greatest - 1, greatest + 1, 1<<63 - 1, 1 << 63, 1<<63 + 29, 18446744073709551557, math.MaxUint64} {
		wantCheck(t, api.Ring{P: p, Order: api.Lex}, api.ErrPrime)
		wantCheck(t, api.Ring{P: p, Vars: names(8), Order: api.GrevLex}, api.ErrPrime)
		wantCheck(t, api.Ring{P: p, Vars: []string{"9"}, Order: api.Lex}, api.ErrName)
		wantCheck(t, api.Ring{P: p, Vars: names(2)}, api.ErrArg)
	}
}

func TestSame(t *testing.T) { // P14.1: of rings that may be, and of others
	all := append(rings(),
		api.Ring{}, api.Ring{P: 9}, api.Ring{Order: 4}, api.Ring{Order: -1}, api.Ring{P: 1 << 63, Order: 1}, api.Ring{Vars: []string{""}}, api.Ring{Vars: []string{"", ""}}, api.Ring{Vars: make([]string, 9)},
		api.Ring{Vars: []string{"y", "x"}, Order: 1}, api.Ring{Vars: []string{"x", "Y"}, Order: 1}, api.Ring{Vars: []string{"xy"}, Order: 1}, api.Ring{Vars: []string{"y"}, Order: 1}, api.Ring{Vars: []string{"x", "y", "x"}, Order: 1})
	for i, a := range all {
		for j, b := range all {
			b.Vars = slices.Clone(b.Vars)
			if got := mpoly.Same(a, b); got != (i == j) {
				t.Errorf("Same of %v, %v: got %t", a, b, got)
			}
		}
	}
	if !mpoly.Same(api.Ring{Order: 1}, api.Ring{Vars: []string{}, Order: 1}) {
		t.Errorf("Same of no names, and of none")
	}
}
