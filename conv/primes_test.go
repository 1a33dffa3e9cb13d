package conv

import (
	"math"
	"math/big"
	"slices"
	"testing"

	"vinculum/api"
	"vinculum/bigint"
	"vinculum/crt"
	"vinculum/prime"
)

// great is a number of words, by other means than the program's.
func great(words []uint64) *big.Int {
	x := new(big.Int)
	for _, w := range slices.Backward(words) {
		x.Lsh(x, 64).Add(x, new(big.Int).SetUint64(w))
	}
	return x
}

func TestPrimesAreTheGreatest(t *testing.T) {
	want, err := prime.Scan(20, 3, 1<<63)
	if err != api.OK || !slices.Equal(primes[:], want) {
		t.Errorf("got %d, want %d, error %d", primes, want, int(err))
	}
}

func TestPrimesTellEveryCoefficient(t *testing.T) { // P8.1: of the longest product of the greatest words
	square := bigint.From(false, []uint64{math.MaxUint64}).Mul(bigint.From(false, []uint64{math.MaxUint64}))
	greatest := square.Mul(bigint.Of(mostTogether / 2))
	if !crt.Enough(greatest.Bits(), primes[:]) {
		t.Errorf("%d are too few for %d bits", primes, greatest.Bits())
	}
}

func TestPlansFor(t *testing.T) {
	for _, many := range []int{1, 2, 3, 4, 5, 8, 9, 1000, 1024, 1025, mostTogether - 1} {
		plans := plansFor(many)
		for i, plan := range plans {
			if plan.Most() < many || plan.Most() >= 2*many {
				t.Errorf("the plan at %d for %d coefficients has %d points", i, many, plan.Most())
			}
			if plan.Most() > 1 {
				// The second point is -1.
				if x, err := plan.Point(1); x != primes[i]-1 || err != api.OK {
					t.Errorf("the plan at %d for %d coefficients is of another prime", i, many)
				}
			}
		}
	}
}

func TestNumberIsTheOneThatLeavesThese(t *testing.T) {
	join := newJoiner()
	all := primesProduct()
	last := new(big.Int).Sub(all, big.NewInt(1))
	for _, x := range []*big.Int{new(big.Int), big.NewInt(1), great([]uint64{math.MaxUint64}), great([]uint64{0, 1}), great([]uint64{0, 0, 1}), last, new(big.Int).Rsh(all, 1), new(big.Int).Div(all, big.NewInt(3))} {
		var left [3]uint64
		for i, p := range primes {
			left[i] = new(big.Int).Mod(x, new(big.Int).SetUint64(p)).Uint64()
		}
		if got := join.number(left); great(got[:]).Cmp(x) != 0 {
			t.Errorf("of %d got %s, want %s", left, great(got[:]), x)
		}
	}
	for _, left := range [][3]uint64{{0, 0, 1}, {0, 1, 0}, {1, 0, 0}, {primes[0] - 1, 0, primes[2] - 1}, {5, 6, 7}, {primes[0] - 1, primes[1] - 1, primes[2] - 1}} {
		want, _, _ := crt.Lift(left[:], primes[:])
		if got := join.number(left); bigint.From(false, got[:]).Cmp(want) != 0 {
			t.Errorf("of %d got %d, want %s", left, got, want.Print())
		}
	}
}

func primesProduct() *big.Int {
	all := big.NewInt(1)
	for _, p := range primes {
		all.Mul(all, new(big.Int).SetUint64(p))
	}
	return all
}

func TestWideNumbers(t *testing.T) {
	words := []uint64{0, 1, 2, 1 << 32, 1 << 63, math.MaxUint64 - 1, math.MaxUint64}
	for _, x := range words {
		for _, y := range words {
			for _, w := range words {
				number := wide{x, y, 0}.timesAnd(w, y)
				want := great([]uint64{x, y})
				want.Mul(want, new(big.Int).SetUint64(w)).Add(want, new(big.Int).SetUint64(y))
				if great(number[:]).Cmp(want) != 0 {
					t.Errorf("%d and %d times %d and %d: got %d", x, y, w, y, number)
				}
				for _, m := range []uint64{2, 3, 10, 1 << 62, 1<<63 - 25, 1<<63 - 1} {
					if left := new(big.Int).Mod(want, new(big.Int).SetUint64(m)).Uint64(); number.left(m) != left {
						t.Errorf("%d, divided by %d: got %d, want %d", number, m, number.left(m), left)
					}
				}
			}
		}
	}
}
