package word_test

import (
	"math/big"
	"testing"

	"vinculum/api"
	"vinculum/word"
)

// formOf is the form of x, by other means.
func formOf(x, m uint64) uint64 { return left(new(big.Int).Lsh(great(x), 64), m) }

// numberOf is the number whose form x is, by other means.
func numberOf(x, m uint64) uint64 {
	radix := new(big.Int).Lsh(big.NewInt(1), 64)
	back := new(big.Int).ModInverse(radix, great(m))
	return left(back.Mul(back, great(x)), m)
}

func checkForms(t *testing.T, f *word.Field, x, y uint64) {
	t.Helper()
	m := f.M()
	form, err := f.In(x)
	if want := formOf(x, m); form != want || err != api.OK {
		t.Errorf("modulo %d: In(%d) is %d, error %d, and not %d", m, x, form, int(err), want)
	}
	number, err := f.Out(x)
	if want := numberOf(x, m); number != want || err != api.OK {
		t.Errorf("modulo %d: Out(%d) is %d, error %d, and not %d", m, x, number, int(err), want)
	}
	product, err := f.Times(x, y)
	want := left(new(big.Int).Mul(great(numberOf(x, m)), great(y)), m)
	if product != want || err != api.OK {
		t.Errorf("modulo %d: Times(%d, %d) is %d, error %d, and not %d", m, x, y, product, int(err), want)
	}
}

func TestForms(t *testing.T) { // P3.3
	eachPair(t, func(f *word.Field, m, x, y uint64) {
		if m%2 == 1 {
			checkForms(t, f, x, y)
		}
	})
}

func TestFormsOfSmallFields(t *testing.T) { // P3.3
	for m := uint64(3); m < 40; m += 2 {
		f := fieldOf(t, m)
		for x := range 2*m + 1 {
			for y := range 2*m + 1 {
				checkForms(t, f, x, y)
			}
		}
	}
}

func TestProductsWhoseLowWordIsNought(t *testing.T) { // P3.3
	for _, m := range []uint64{1<<63 - 1, highestPrime, 1<<62 + 1} {
		f := fieldOf(t, m)
		for n := uint(2); n < 63; n++ {
			checkForms(t, f, 1<<n, 1<<(64-n))
			checkForms(t, f, 1<<n, 3<<(64-n))
			checkForms(t, f, 1<<n, 1<<(63-n))
		}
	}
}

func TestNoFormsOfEvenFields(t *testing.T) { // P3.3
	for _, m := range moduli() {
		if m%2 == 1 {
			continue
		}
		f := fieldOf(t, m)
		for _, x := range numbers(m) {
			for name, call := range map[string]func(uint64) (uint64, api.Errno){
				"In": f.In, "Out": f.Out,
				"Times":           func(x uint64) (uint64, api.Errno) { return f.Times(x, 1) },
				"Times from left": func(x uint64) (uint64, api.Errno) { return f.Times(1, x) },
			} {
				if got, err := call(x); got != 0 || err != api.ErrArg {
					t.Errorf("modulo %d: %s of %d is %d, error %d", m, name, x, got, int(err))
				}
			}
		}
	}
}
