package word_test

import (
	"testing"

	"vinculum/api"
	"vinculum/word"
)

func alike(t *testing.T, f *word.Field, what string, x, y uint64) {
	t.Helper()
	if x != y {
		t.Errorf("modulo %d: %s: %d is not %d", f.M(), what, x, y)
	}
	if x >= f.M() || y >= f.M() {
		t.Errorf("modulo %d: %s: %d or %d is not below it", f.M(), what, x, y)
	}
}

func TestNumbersModuloAreARing(t *testing.T) { // P3.4
	s := source(3)
	eachPair(t, func(f *word.Field, m, x, y uint64) {
		z := s.word()
		alike(t, f, "sums the other way about", f.Add(x, y), f.Add(y, x))
		alike(t, f, "products the other way about", f.Mul(x, y), f.Mul(y, x))
		alike(t, f, "sums of three", f.Add(f.Add(x, y), z), f.Add(x, f.Add(y, z)))
		alike(t, f, "products of three", f.Mul(f.Mul(x, y), z), f.Mul(x, f.Mul(y, z)))
		alike(t, f, "products over sums", f.Mul(x, f.Add(y, z)), f.Add(f.Mul(x, y), f.Mul(x, z)))
		alike(t, f, "products over differences", f.Mul(x, f.Sub(y, z)), f.Sub(f.Mul(x, y), f.Mul(x, z)))
		alike(t, f, "x less x", f.Sub(x, x), 0)
		alike(t, f, "x and 0", f.Add(x, 0), f.Of(x))
		alike(t, f, "x times 1", f.Mul(x, 1), f.Of(x))
		alike(t, f, "x times 0", f.Mul(x, 0), 0)
		alike(t, f, "taken away again", f.Sub(f.Add(x, y), y), f.Of(x))
		alike(t, f, "a difference and a sum", f.Sub(x, y), f.Add(x, f.Sub(0, y)))
		alike(t, f, "powers of a product", f.Pow(f.Mul(x, y), z), f.Mul(f.Pow(x, z), f.Pow(y, z)))
		alike(t, f, "a power by a half and a half", f.Pow(x, z), f.Mul(f.Pow(x, z/2), f.Pow(x, z-z/2)))
	})
}

func TestPrimesHaveInverses(t *testing.T) { // P3.4
	for _, m := range []uint64{2, 3, 5, 7, 31, 998244353, 1<<31 - 1, 1<<61 - 1, highestPrime} {
		f := fieldOf(t, m)
		for _, x := range numbers(m) {
			y, err := f.Inv(x)
			if x%m == 0 {
				wantErr(t, "the inverse of 0", err, api.ErrDivZero)
				continue
			}
			wantErr(t, "an inverse modulo a prime", err, api.OK)
			alike(t, f, "a number and its inverse", f.Mul(x, y), 1)
			alike(t, f, "an inverse by a power", f.Pow(x, m-2), y)
			alike(t, f, "a number to the prime", f.Pow(x, m), f.Of(x))
		}
	}
}

func TestInversesAreTaken(t *testing.T) { // P3.4
	eachPair(t, func(f *word.Field, m, x, y uint64) {
		xInverse, err := f.Inv(x)
		yInverse, otherErr := f.Inv(y)
		if err != api.OK || otherErr != api.OK {
			return
		}
		alike(t, f, "a number and its inverse", f.Mul(x, xInverse), 1)
		product, err := f.Inv(f.Mul(x, y))
		wantErr(t, "the inverse of a product", err, api.OK)
		alike(t, f, "the inverse of a product", product, f.Mul(xInverse, yInverse))
		both, err := f.Invs([]uint64{x, y})
		wantErr(t, "both inverses", err, api.OK)
		alike(t, f, "the first of both", both[0], xInverse)
		alike(t, f, "the second of both", both[1], yInverse)
	})
}

func TestFormsLeadBack(t *testing.T) { // P3.4
	eachPair(t, func(f *word.Field, m, x, y uint64) {
		if m%2 == 0 {
			return
		}
		a, _ := f.In(x)
		b, _ := f.In(y)
		c, err := f.Times(a, b)
		wantErr(t, "Times of two forms", err, api.OK)
		again, _ := f.Out(a)
		alike(t, f, "Out of In", again, f.Of(x))
		product, _ := f.Out(c)
		alike(t, f, "Times between In and Out", product, f.Mul(x, y))
		number, _ := f.Out(x)
		form, _ := f.In(number)
		alike(t, f, "In of Out", form, f.Of(x))
	})
}
