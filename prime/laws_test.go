package prime_test

import (
	"math"
	"math/bits"
	"testing"

	"vinculum/api"
	"vinculum/prime"
	"vinculum/word"
)

func TestRootsHaveTheirOrder(t *testing.T) { // P4.4
	for _, p := range append(greatPrimes(t), 2, 3, 5, 7, 17, 97, 193, 257, 65537) {
		f, err := word.New(p)
		if err != api.OK {
			t.Fatalf("New(%d): error %d", p, int(err))
		}
		for k := range bits.TrailingZeros64(p-1) + 1 {
			y, err := prime.Root(p, k)
			if err != api.OK || y == 0 || y >= p {
				t.Fatalf("Root(%d, %d) is %d, error %d", p, k, y, int(err))
			}
			for n := range k + 1 {
				if got := f.Pow(y, 1<<n); (got == 1) != (n == k) {
					t.Errorf("Root(%d, %d), which is %d, to the 2 to the %d is %d", p, k, y, n, got)
				}
			}
			if got, err := prime.Order(p, y); got != k || err != api.OK {
				t.Errorf("Order(%d, %d) is %d, error %d, and not %d", p, y, got, int(err), k)
			}
		}
	}
}

func TestProductsAreNoPrimes(t *testing.T) { // P4.4
	s := source(5)
	for range 20000 {
		x := s.word() >> (s.word() % 62)
		if x < 2 {
			continue
		}
		most := math.MaxUint64 / x
		if most < 2 {
			continue
		}
		y := 2 + s.word()%(most-1)
		if prime.Is(x * y) {
			t.Errorf("Is(%d, which is %d times %d) is true", x*y, x, y)
		}
	}
}

func TestProductsOfPrimesAreNoPrimes(t *testing.T) { // P4.4
	s := source(6)
	for n := 2; n <= 32; n++ {
		for range 100 {
			x, _ := prime.Next(s.word() >> (64 - n) / 2)
			y, _ := prime.Next(s.word() >> (64 - n) / 2)
			if prime.Is(x*y) || prime.Is(x*x) {
				t.Errorf("Is(%d times %d), or of a square, is true", x, y)
			}
		}
	}
	if x := uint64(4294967291); prime.Is(x*x) || prime.Is(x*4294967279) {
		t.Error("the greatest products of primes below 2 to the 32nd are primes")
	}
}

func TestScansAreWhatTheyMustBe(t *testing.T) { // P4.2
	for k := 1; k <= 40; k++ {
		list, err := prime.Scan(k, 64, 1<<63)
		if err != api.OK || len(list) != 64 {
			t.Fatalf("Scan(%d, 64, 2 to the 63rd): %d of them, error %d", k, len(list), int(err))
		}
		for i, p := range list {
			if !known(p) || p%(1<<k) != 1 || p >= 1<<63 || i > 0 && p >= list[i-1] {
				t.Errorf("Scan(%d, 64, 2 to the 63rd): got %d at %d", k, p, i)
			}
			if root, err := prime.Root(p, k); root == 0 || err != api.OK {
				t.Errorf("Root(%d, %d) is %d, error %d", p, k, root, int(err))
			}
		}
	}
}
