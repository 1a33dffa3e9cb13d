package multi

import (
	"math/bits"

	"vinculum/api"
	"vinculum/bigint"
	"vinculum/crt"
	"vinculum/mpoly"
)

// exponents are those of a term, as a key of a map.
type exponents [api.MaxVars]int32

// grid tells where in a product each pair of terms stands. That is the same for all primes,
// and finding it takes longer than to multiply a pair modulo many of them.
type grid struct {
	a, b   []mpoly.Term
	at     []exponents // those of the product, each once
	places []int32     // of each pair, row by row of a's terms: where in at its exponents are
}

func gridOf(a, b []mpoly.Term) grid {
	g := grid{a: a, b: b, places: make([]int32, 0, len(a)*len(b))}
	seen := map[exponents]int32{}
	for _, x := range a {
		for _, y := range b {
			e := together(x.E, y.E)
			place, is := seen[e]
			if !is {
				place = int32(len(g.at))
				seen[e] = place
				g.at = append(g.at, e)
			}
			g.places = append(g.places, place)
		}
	}
	return g
}

// together is the exponents of the product of two terms.
func together(x, y []int) exponents {
	var e exponents
	for v := range x {
		e[v] = int32(x[v] + y[v])
	}
	return e
}

// terms is those of the product, which primes must be enough for.
func (g grid) terms(primes []uint64) ([]mpoly.Term, api.Errno) {
	all, one := units(primes)
	sums := make([]bigint.Int, len(g.at)) // none of them ever falls: 0 is where nothing was left
	many := 0
	for i, p := range primes {
		for place, left := range g.modulo(p) {
			if left == 0 {
				continue
			}
			if sums[place].Sign() == 0 {
				many++
			}
			// What something is left of by one prime is not 0: there is a term.
			if many > api.MaxTerms {
				return nil, api.ErrLimit
			}
			sums[place] = sums[place].Add(one[i].Mul(number(left)))
		}
	}
	list := make([]mpoly.Term, 0, many)
	for place, x := range sums {
		if x.Sign() != 0 {
			c, _ := crt.Near(x, all)
			list = append(list, mpoly.Term{E: g.list(place), C: c})
		}
	}
	return list, api.OK
}

// list is the exponents at a place, as many as there are variables.
func (g grid) list(place int) []int {
	e := make([]int, len(g.a[0].E))
	for v := range e {
		e[v] = int(g.at[place][v])
	}
	return e
}

// modulo is what is left of the product's coefficients, place by place, divided by a prime.
func (g grid) modulo(p uint64) []uint64 {
	a, b := parts(g.a, p), parts(g.b, p)
	sums := make([]sum, len(g.at))
	for i, x := range a {
		row := g.places[i*len(b) : (i+1)*len(b)]
		for j, place := range row {
			sums[place].add(x, b[j], p)
		}
	}
	left := make([]uint64, len(sums))
	for place, s := range sums {
		left[place] = bits.Rem64(s.high, s.low, p)
	}
	return left
}

// parts is what is left of the coefficients of terms, divided by a prime.
func parts(l []mpoly.Term, p uint64) []uint64 {
	left := make([]uint64, len(l))
	for i, t := range l {
		left[i], _ = t.C.Mod(p)
	}
	return left
}

// sum is one of products modulo a prime, in two words. It is divided once, when all are
// there; till then only its higher word is kept below the prime.
type sum struct{ high, low uint64 }

// add adds the product of two numbers below a prime.
func (s *sum) add(x, y, p uint64) {
	high, low := bits.Mul64(x, y)
	low, carry := bits.Add64(s.low, low, 0)
	s.low = low
	// As p is below 2 to the 63rd, high is below half of it: so this is a word, and below two p.
	s.high += high + carry
	if s.high >= p {
		s.high -= p
	}
}
