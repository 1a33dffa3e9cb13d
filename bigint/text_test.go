package bigint_test

import (
	"math/big"
	"strconv"
	"strings"
	"testing"

	"vinculum/api"
	"vinculum/bigint"
)

func TestParse(t *testing.T) { // P2.4
	list := []string{
		"0", "1", "9", "10", "9223372036854775807", "9223372036854775808", "18446744073709551615",
		"18446744073709551616", "340282366920938463463374607431768211456",
		strings.Repeat("9", 20000), "1" + strings.Repeat("0", 19999),
	}
	for _, digits := range list {
		texts := []string{digits, "-" + digits}
		if digits == "0" {
			texts = texts[:1]
		}
		for _, s := range texts {
			x, err := bigint.Parse(s)
			wantErr(t, "Parse", err, api.OK)
			want, _ := new(big.Int).SetString(s, 10)
			same(t, "Parse", x, want)
			if got := x.Print(); got != s {
				t.Errorf("%s is printed as %s", s, got)
			}
		}
	}
}

func TestParseErrors(t *testing.T) { // P2.4
	many := strings.Repeat("1", 20001)
	cases := []struct {
		s    string
		want api.Errno
	}{
		{"", api.ErrSyntax}, {"-", api.ErrSyntax}, {"--", api.ErrSyntax}, {"-0", api.ErrSyntax},
		{"--1", api.ErrSyntax}, {"--0", api.ErrSyntax}, {"+1", api.ErrSyntax}, {"-+1", api.ErrSyntax}, {"+-1", api.ErrSyntax},
		{"00", api.ErrSyntax}, {"-00", api.ErrSyntax}, {"-01", api.ErrSyntax}, {"01", api.ErrSyntax},
		{"1-", api.ErrSyntax}, {"1-1", api.ErrSyntax}, {" 1", api.ErrSyntax}, {" -1", api.ErrSyntax}, {"- 1", api.ErrSyntax},
		{"-1 ", api.ErrSyntax}, {"-1\n", api.ErrSyntax}, {"-0x1", api.ErrSyntax}, {"-1_0", api.ErrSyntax}, {"-1.0", api.ErrSyntax},
		{"\u22121", api.ErrSyntax}, {"\u20131", api.ErrSyntax}, {"-\u0661", api.ErrSyntax}, {"-\xff", api.ErrSyntax}, {"\x00", api.ErrSyntax},
		{many, api.ErrLimit}, {"-" + many, api.ErrLimit}, {"-" + many + "a", api.ErrSyntax}, {"--" + many, api.ErrSyntax},
	}
	for _, c := range cases {
		x, err := bigint.Parse(c.s)
		what := strconv.Quote(c.s[:min(len(c.s), 20)])
		wantErr(t, what, err, c.want)
		wantNone(t, what, x)
	}
}

func TestPrint(t *testing.T) { // P2.4
	for _, n := range []int{0, 1, -1, 10, -10, 123456789, -123456789} {
		if got, want := bigint.Of(n).Print(), strconv.Itoa(n); got != want {
			t.Errorf("Print: got %s, want %s", got, want)
		}
	}
	pairs(func(x, _ bigint.Int) {
		if got, want := x.Print(), toBig(x).String(); got != want {
			t.Errorf("Print: got %s, want %s", got, want)
		}
	})
}
