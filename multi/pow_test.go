package multi_test

import (
	"math"
	"testing"

	"vinculum/api"
	"vinculum/bigint"
	"vinculum/mpoly"
	"vinculum/multi"
)

func wantPowErr(t *testing.T, what string, a mpoly.Poly, n, way int, below uint64, want api.Errno) {
	t.Helper()
	got, err := multi.Pow(a, n, way, below)
	wantErr(t, "Pow of "+what, got, err, want)
}

func TestPow(t *testing.T) { // P18.4: as mpoly's
	s := source(41)
	for _, r := range rings() {
		for _, a := range []mpoly.Poly{made(t, r), number(t, r, 1), number(t, r, -3), s.poly(t, r, 1, 4), s.poly(t, r, 2, 3), s.poly(t, r, 3, 2), s.poly(t, r, 5, 3)} {
			for n := range 6 - len(r.Vars)*3/8 { // boxes of many variables take long
				want := fine(t)(a.Pow(n))
				for way := range 5 {
					if n > 0 && way > byHeap && (way == byCrt) != (r.P == 0) {
						wantPowErr(t, "a polynomial, by a way of other rings", a, n, way, mostWord, api.ErrArg)
						continue
					}
					got, err := multi.Pow(a, n, way, mostWord)
					if err == api.ErrLimit && (way == byKron || way == byBox) {
						continue // Bases were too great
					}
					wantSame(t, "Pow", fine(t)(got, err), want)
				}
			}
		}
	}
}

func TestPowersOfASum(t *testing.T) { // P18.4: (x + 1) to the nth, number by number
	for _, p := range []uint64{0, 2, 7, greatest} {
		r := ring(p, api.GrevLex, 1)
		a := made(t, r, list{1, 1}, list{1, 0})
		row := []bigint.Int{bigint.Of(1)}
		for n := range 101 {
			l := make([]mpoly.Term, len(row))
			for i, c := range row {
				l[i] = mpoly.Term{E: list{i}, C: c}
			}
			want := polyOf(t, r, l)
			for way := range 5 {
				if way > byHeap && (way == byCrt) != (p == 0) || n%9 != 1 {
					continue
				}
				wantSame(t, "a power of x + 1", fine(t)(multi.Pow(a, n, way, 30000)), want)
			}
			next := []bigint.Int{bigint.Of(1)}
			for i := range n {
				next = append(next, row[i].Add(row[i+1]))
			}
			row = append(next, bigint.Of(1))
		}
	}
}

func TestPowerNought(t *testing.T) { // P18.4: 1, by each way and whatever the primes are, of each polynomial
	s := source(42)
	for _, r := range rings() {
		for _, a := range append(samples(t, &s, r), s.poly(t, r, 3, mostExp+1)) {
			for way := range 5 {
				for _, below := range []uint64{mostWord, 0, mostWord + 1} {
					wantSame(t, "the power 0", fine(t)(multi.Pow(a, 0, way, below)), number(t, r, 1))
				}
			}
		}
	}
}

func TestPowOfTheZeroPoly(t *testing.T) { // P18.4: of the zero Poly itself, where the way takes it
	for _, n := range []int{0, 1, 2, 1000} {
		for _, way := range []int{auto, byHeap, byCrt} {
			wantPowErr(t, "the zero Poly", mpoly.Poly{}, n, way, mostWord, api.OK)
		}
	}
	for way := range 5 {
		wantPowErr(t, "the zero Poly, to the 0th", mpoly.Poly{}, 0, way, 0, api.OK)
	}
	wantPowErr(t, "the zero Poly", mpoly.Poly{}, 1, byKron, mostWord, api.ErrArg)
	wantPowErr(t, "the zero Poly", mpoly.Poly{}, 1, byBox, mostWord, api.ErrArg)
	wantPowErr(t, "the zero Poly", mpoly.Poly{}, 1, byCrt, 0, api.ErrNone)
}

func TestPowOfWrongNumbers(t *testing.T) { // P18.4: ErrArg, ahead of all else
	high := made(t, ring(0, api.Lex, 2), list{1, mostExp, 0}, list{1, 0, 1})
	for _, a := range []mpoly.Poly{{}, made(t, high.Ring()), high, made(t, ring(7, api.Lex, 2), list{1, 1, 1})} {
		for way := range 5 {
			for _, n := range []int{-1, 1001, -2, -1000, 1 << 32, math.MinInt, math.MaxInt} {
				wantPowErr(t, "a wrong power", a, n, way, mostWord, api.ErrArg)
				wantPowErr(t, "a wrong power", a, n, way, mostWord+1, api.ErrArg)
			}
		}
		for _, way := range []int{-1, 5, 6, -5, 1 << 32, math.MinInt, math.MaxInt} {
			for _, n := range []int{-1, 0, 1, 2, 1000, 1001} {
				wantPowErr(t, "no way", a, n, way, mostWord, api.ErrArg)
			}
		}
	}
}

func TestPowWithHighExponents(t *testing.T) { // P18.4: the limit of In, ahead of the way's errors
	cases := []struct {
		l    []list
		n    int
		want api.Errno
	}{
		{[]list{{1, mostExp / 2, 0}}, 2, api.OK}, {[]list{{1, mostExp/2 + 1, 0}}, 2, api.ErrLimit}, {[]list{{1, mostExp, mostExp}}, 1, api.OK}, {[]list{{1, 0, mostExp}}, 2, api.ErrLimit}, {[]list{{1, 0, mostExp / 2}}, 2, api.OK}, {[]list{{1, 1048, 1}}, 1000, api.OK}, {[]list{{1, 1, 1048}}, 1000, api.OK}, {[]list{{1, 1049, 0}}, 1000, api.ErrLimit}, {[]list{{1, 0, 1049}}, 1000, api.ErrLimit}, {[]list{{1, 1049, 0}}, 999, api.OK}, {[]list{{1, 61681, 0}}, 17, api.ErrLimit}, {[]list{{1, 0, 61680}}, 17, api.OK}, // 61681 times 17 is one above the limit
		{[]list{{1, mostExp/2 + 1, 0}, {-1, 0, 1}}, 2, api.ErrLimit}, {[]list{{1, 5, 0}, {1, 0, mostExp / 3}}, 3, api.OK}, {[]list{{1, 5, 0}, {1, 0, mostExp/3 + 1}}, 3, api.ErrLimit}, {[]list{{1, mostExp, mostExp}}, 0, api.OK}, {nil, 1000, api.OK},
	}
	for _, p := range []uint64{0, 2, greatest} {
		r := ring(p, api.GrLex, 2)
		for _, c := range cases {
			a := made(t, r, c.l...)
			for way := range 5 {
				if c.want != api.OK {
					wantPowErr(t, "high powers", a, c.n, way, 0, c.want)
				} else if way <= byHeap {
					wantSame(t, "Pow of high powers", fine(t)(multi.Pow(a, c.n, way, 0)), fine(t)(a.Pow(c.n)))
				}
			}
		}
	}
}

func TestPowHasTheFirstErrorOfItsWay(t *testing.T) { // P18.4
	z, f := ring(0, api.Lex, 2), ring(7, api.Lex, 2)
	one := func(bits int) mpoly.Poly { return polyOf(t, z, []mpoly.Term{{E: list{1, 0}, C: ofBits(t, bits)}}) }
	// By primes: 1 by a, a by a, a^2 by a, .. have the Bits of both.
	wantSame(t, "4 times 1000 bits", fine(t)(multi.Pow(one(1000), 4, byCrt, mostWord)), fine(t)(one(1000).Pow(4)))
	wantPowErr(t, "5 times 1000 bits", one(1000), 5, byCrt, mostWord, api.ErrLimit)
	wantPowErr(t, "4 times 1001 bits", one(1001), 4, byCrt, mostWord, api.ErrLimit)
	wantSame(t, "5 times 1000 bits, by one's own choice", fine(t)(multi.Pow(one(1000), 5, auto, mostWord)), fine(t)(one(1000).Pow(5)))
	wantPowErr(t, "1 by a number of 4000 bits", one(4000), 1, byCrt, mostWord, api.ErrLimit)
	wantSame(t, "1 by a number of 3999 bits", fine(t)(multi.Pow(one(3999), 1, byCrt, mostWord)), one(3999))
	wantPowErr(t, "no primes", one(1), 1, byCrt, 3, api.ErrNone)
	wantPowErr(t, "primes that may not be", one(1), 1, byCrt, mostWord+1, api.ErrArg)
	// Below 100 there are primes for 100 bits and more, and not for 1000.
	wantSame(t, "100 bits", fine(t)(multi.Pow(one(10), 10, byCrt, 100)), fine(t)(one(10).Pow(10)))
	wantPowErr(t, "1000 bits", one(10), 100, byCrt, 100, api.ErrNone)
	// Packed: the product of the Bases of the last product is that of the power's.
	x := corner(t, f, 127, 127)
	for _, c := range []struct {
		n             int
		ofKron, ofBox api.Errno
	}{{2, api.OK, api.OK}, {3, api.OK, api.ErrLimit}, {4, api.OK, api.ErrLimit}, {5, api.ErrLimit, api.ErrLimit}} {
		for way, want := range map[int]api.Errno{auto: api.OK, byHeap: api.OK, byKron: c.ofKron, byBox: c.ofBox} {
			if want != api.OK {
				wantPowErr(t, "many places", x, c.n, way, mostWord, want)
			} else {
				wantSame(t, "Pow of many places", fine(t)(multi.Pow(x, c.n, way, mostWord)), fine(t)(x.Pow(c.n)))
			}
		}
	}
	// Term by term: a power has too many.
	long := polyOf(t, ring(greatest, api.Lex, 2), append(row(330, 0, 1, 0, 2), row(330, 0, 1, 1, 2)...))
	for _, way := range []int{auto, byHeap} {
		wantPowErr(t, "many terms", long, 2, way, mostWord, api.ErrLimit)
		wantPowErr(t, "many terms", polyOf(t, z, append(row(330, 0, 1, 0, 2), row(330, 0, 1, 1, 2)...)), 2, way, mostWord, api.ErrLimit)
	}
}

func TestTheHighestPower(t *testing.T) { // P18.4: the 1000th
	for _, p := range []uint64{0, 2, 7} {
		r := ring(p, api.Lex, 1)
		a := made(t, r, list{2, 1})
		want := polyOf(t, r, []mpoly.Term{{E: list{1000}, C: power(t, 2, 1000)}})
		for way := range 5 {
			if way > byHeap && (way == byCrt) != (p == 0) {
				continue
			}
			wantSame(t, "2x to the 1000th", fine(t)(multi.Pow(a, 1000, way, mostWord)), want)
		}
	}
}
