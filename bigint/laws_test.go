package bigint_test

import (
	"testing"

	"vinculum/api"
	"vinculum/bigint"
)

func alike(t *testing.T, what string, x, y bigint.Int) {
	t.Helper()
	if x.Cmp(y) != 0 || x.Print() != y.Print() {
		t.Errorf("%s: %s is not %s", what, x.Print(), y.Print())
	}
}

func TestWholeNumbersAreARing(t *testing.T) { // P2.5
	s := source(7)
	zero, one := bigint.Of(0), bigint.Of(1)
	pairs(func(x, y bigint.Int) {
		z := s.number(s.below(6))
		alike(t, "sums the other way about", x.Add(y), y.Add(x))
		alike(t, "products the other way about", x.Mul(y), y.Mul(x))
		alike(t, "sums of three", x.Add(y).Add(z), x.Add(y.Add(z)))
		alike(t, "products of three", x.Mul(y).Mul(z), x.Mul(y.Mul(z)))
		alike(t, "products over sums", x.Mul(y.Add(z)), x.Mul(y).Add(x.Mul(z)))
		alike(t, "products over differences", x.Mul(y.Sub(z)), x.Mul(y).Sub(x.Mul(z)))
		alike(t, "x less x", x.Sub(x), zero)
		alike(t, "x and 0", x.Add(zero), x)
		alike(t, "x times 1", x.Mul(one), x)
		alike(t, "x times 0", x.Mul(zero), zero)
		alike(t, "a difference and a sum", x.Sub(y), x.Add(y.Neg()))
		alike(t, "taken away again", x.Add(y).Sub(y), x)
	})
}

func TestQuotientsFollow(t *testing.T) { // P2.5
	pairs(func(x, y bigint.Int) {
		q, left, err := x.QuoRem(y)
		if err == api.OK {
			alike(t, "y times QuoRem's quotient, and what is left", y.Mul(q).Add(left), x)
		}
		q, left, err = x.DivMod(y)
		if err == api.OK {
			alike(t, "y times DivMod's quotient, and what is left", y.Mul(q).Add(left), x)
		}
		q, err = x.Exact(y)
		if err == api.OK {
			alike(t, "y times Exact", y.Mul(q), x)
		}
	})
}

func TestWhatIsPrintedIsParsed(t *testing.T) { // P2.5
	pairs(func(x, _ bigint.Int) {
		y, err := bigint.Parse(x.Print())
		wantErr(t, "Parse of Print", err, api.OK)
		alike(t, "Parse of Print", y, x)
	})
}
