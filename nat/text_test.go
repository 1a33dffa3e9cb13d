package nat_test

import (
	"math/big"
	"strconv"
	"strings"
	"testing"

	"vinculum/api"
	"vinculum/nat"
)

func TestParse(t *testing.T) { // P1.4
	long := "1" + strings.Repeat("0123456789", 1999) + "987654321"
	list := []string{
		"0", "1", "9", "10", "100", "1234567890",
		"9999999999999999999", "10000000000000000000", "10000000000000000001",
		"18446744073709551615", "18446744073709551616", "18446744073709551617",
		"99999999999999999999999999999999999999",
		"100000000000000000000000000000000000000",
		"340282366920938463463374607431768211455",
		"340282366920938463463374607431768211456",
		strings.Repeat("9", 19999), strings.Repeat("9", 20000), long,
		"1" + strings.Repeat("0", 19999),
	}
	for _, s := range list {
		got, err := nat.Parse(s)
		wantErr(t, "Parse", err, api.OK)
		want, _ := new(big.Int).SetString(s, 10)
		same(t, "Parse", got, want)
		if text := nat.Print(got); text != s {
			t.Errorf("%s is printed as %s", s, text)
		}
	}
}

func TestParseErrors(t *testing.T) { // P1.4
	many := strings.Repeat("1", 20001)
	cases := []struct {
		s    string
		want api.Errno
	}{
		{"", api.ErrSyntax}, {"00", api.ErrSyntax}, {"01", api.ErrSyntax}, {"007", api.ErrSyntax},
		{"-1", api.ErrSyntax}, {"+1", api.ErrSyntax}, {"-0", api.ErrSyntax}, {"-", api.ErrSyntax},
		{" 1", api.ErrSyntax}, {"1 ", api.ErrSyntax}, {"1 2", api.ErrSyntax}, {"1\n", api.ErrSyntax},
		{"1_000", api.ErrSyntax}, {"0x1", api.ErrSyntax}, {"1a", api.ErrSyntax}, {"1e5", api.ErrSyntax},
		{"1.0", api.ErrSyntax}, {"1/", api.ErrSyntax}, {"1:", api.ErrSyntax}, {"/", api.ErrSyntax},
		{"\x00", api.ErrSyntax}, {"1\x00", api.ErrSyntax}, {"\xff", api.ErrSyntax},
		{"\u0663", api.ErrSyntax}, {"1\uff12", api.ErrSyntax}, {"\u00b2", api.ErrSyntax},
		{many, api.ErrLimit}, {many + many, api.ErrLimit},
		{many + "a", api.ErrSyntax}, {"0" + many, api.ErrSyntax}, {strings.Repeat("0", 20001), api.ErrSyntax},
		{"a" + many, api.ErrSyntax},
	}
	for _, c := range cases {
		got, err := nat.Parse(c.s)
		what := strconv.Quote(c.s[:min(len(c.s), 20)])
		wantErr(t, what, err, c.want)
		wantNone(t, what, got)
	}
}

func TestPrint(t *testing.T) { // P1.4
	cases := []struct {
		x    nat.Nat
		want string
	}{
		{nil, "0"}, {nat.Nat{}, "0"}, {nat.Nat{0, 0}, "0"}, {nat.Nat{5, 0}, "5"},
		{nat.Nat{0, 1}, "18446744073709551616"},
		{nat.Nat{0, 0, 1}, "340282366920938463463374607431768211456"},
		{nat.Nat{9999999999999999999}, "9999999999999999999"},
		{nat.Nat{10000000000000000000}, "10000000000000000000"},
		{nat.Nat{10000000000000000007}, "10000000000000000007"},
	}
	for _, c := range cases {
		if got := nat.Print(c.x); got != c.want {
			t.Errorf("Print(%v): got %s, want %s", c.x, got, c.want)
		}
	}
	pairs(func(x, _ nat.Nat) {
		if got, want := nat.Print(x), toBig(x).String(); got != want {
			t.Errorf("Print(%v): got %s, want %s", x, got, want)
		}
	})
}

func TestPrintOfManyDigits(t *testing.T) { // P1.4
	x := full(4000)
	if got, want := nat.Print(x), toBig(x).String(); got != want {
		t.Error("a number of 4000 words")
	}
}

func TestWhatIsPrintedIsParsed(t *testing.T) { // P1.5
	pairs(func(x, _ nat.Nat) {
		got, err := nat.Parse(nat.Print(x))
		wantErr(t, "Parse of Print", err, api.OK)
		same(t, "Parse of Print", got, toBig(x))
	})
}
