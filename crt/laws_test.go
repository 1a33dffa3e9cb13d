package crt_test

import (
	"math/big"
	"testing"

	"vinculum/api"
	"vinculum/bigint"
	"vinculum/crt"
)

func TestNumbersAreTheJoinOfTheirParts(t *testing.T) { // P5.4
	s := source(21)
	for range 4000 {
		m := s.apart(10)
		bits := product(m).BitLen() - 2 - s.below(3)
		if !crt.Enough(bits, m) {
			continue
		}
		words := s.number(bits/64 + 1)
		bound := new(big.Int).Lsh(big.NewInt(1), uint(bits))
		left := new(big.Int).Mod(toBig(words), bound).String()
		for _, x := range []bigint.Int{parsed(t, left), parsed(t, left).Neg()} {
			checkJoined(t, x, m)
		}
	}
}

func TestGreatestNumbersAreTheJoinOfTheirParts(t *testing.T) { // P5.4: at the very edge
	s := source(22)
	for range 1000 {
		m := s.apart(6)
		for bits := range product(m).BitLen() {
			if !crt.Enough(bits, m) {
				break
			}
			most := new(big.Int).Lsh(big.NewInt(1), uint(bits))
			x := parsed(t, most.Sub(most, big.NewInt(1)).String())
			checkJoined(t, x, m)
			checkJoined(t, x.Neg(), m)
		}
	}
}

func checkJoined(t *testing.T, x bigint.Int, m []uint64) {
	t.Helper()
	parts, err := crt.Parts(x, m)
	wantErr(t, "Parts", err, api.OK)
	got, err := crt.Join(parts, m)
	wantErr(t, "Join", err, api.OK)
	if got.Cmp(x) != 0 {
		t.Errorf("the Join of the Parts of %s by %d: got %s", x.Print(), m, got.Print())
	}
}

func TestStepsMakeALift(t *testing.T) { // P5.2
	s := source(23)
	for range 500 {
		m := s.apart(8)
		l := s.words(m)
		want, product, err := crt.Lift(l, m)
		wantErr(t, "Lift", err, api.OK)
		x, all := bigint.Of(s.below(100)), bigint.Of(1)
		for i, w := range m {
			x, all, err = crt.Step(x, all, l[i], w)
			wantErr(t, "Step", err, api.OK)
		}
		if len(m) > 0 && x.Cmp(want) != 0 || all.Cmp(product) != 0 {
			t.Errorf("Steps by %d: got %s, %s, want %s, %s", m, x.Print(), all.Print(), want.Print(), product.Print())
		}
	}
}

func TestLiftsDoNotHangOnOrder(t *testing.T) { // P5.2
	s := source(24)
	for range 500 {
		m := s.apart(8)
		l := s.words(m)
		x, all, _ := crt.Lift(l, m)
		for i := len(m) - 1; i > 0; i-- {
			j := s.below(i + 1)
			l[i], l[j], m[i], m[j] = l[j], l[i], m[j], m[i]
		}
		y, other, err := crt.Lift(l, m)
		if x.Cmp(y) != 0 || all.Cmp(other) != 0 || err != api.OK {
			t.Errorf("Lift(%d, %d): got %s, %s, error %d, and %s, %s in another order", l, m, y.Print(), other.Print(), int(err), x.Print(), all.Print())
		}
	}
}
