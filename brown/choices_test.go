package brown_test

import (
	"math"
	"slices"
	"testing"

	"vinculum/api"
	"vinculum/bigint"
	"vinculum/brown"
	"vinculum/mpoly"
)

// others are polynomials whose ring is not that over the integers, x and y, Lex, and is near to it.
func others(t *testing.T) []mpoly.Poly {
	t.Helper()
	yx := api.Ring{Vars: []string{"y", "x"}, Order: api.Lex}
	return []mpoly.Poly{{}, made(t, ring(0, api.GrLex, 2), list{1, 0, 1}), made(t, ring(0, api.GrevLex, 2)), made(t, ring(7, api.Lex, 2), list{1, 0, 1}), made(t, ring(2, api.Lex, 2)), made(t, ring(0, api.Lex, 1), list{1, 0}), made(t, ring(0, api.Lex, 3), list{1, 0, 0, 1}), made(t, ring(0, api.Lex, 0), list{1}), made(t, yx, list{1, 0, mostIn + 1})}
}

func TestOtherRings(t *testing.T) { // P21.2, P21.3: ErrRing, ahead of all others
	r := ring(0, api.Lex, 2)
	for _, a := range []mpoly.Poly{made(t, r), number(t, r, 1), made(t, r, list{1, 1, 0}), made(t, r, list{1, mostIn + 1, 0})} {
		for _, b := range others(t) {
			for _, c := range []brown.Choices{{}, plenty(), {Primes: row{9}}} {
				wantGcdErr(t, "of another ring", a, b, c, api.ErrRing)
				for _, l := range [][2]mpoly.Poly{{a, b}, {b, a}} {
					got, err := brown.Field(l[0], l[1], c.Points)
					wantErr(t, "Field of another ring", got, err, api.ErrRing)
				}
			}
		}
	}
}

func TestTooHighPowers(t *testing.T) { // P21.2, P21.3: ErrArg, ahead of ErrPrime, whichever variable has it, also of 0
	for _, p := range []uint64{0, 2, greatest} {
		for _, vars := range []int{1, 3, 8} {
			r := ring(p, api.GrevLex, vars)
			for v := range vars {
				high, low := make(list, vars+1), make(list, vars+1)
				high[0], low[0] = 1, 1
				high[v+1], low[v+1] = mostIn+1, mostIn
				a, b := made(t, r, high, make(list, vars+1)), made(t, r, low)
				for _, c := range []brown.Choices{{}, plenty(), {Primes: row{9}}} {
					wantGcdErr(t, "the 201st power, and 0", a, made(t, r), c, api.ErrArg)
					wantGcdErr(t, "the 201st power, and 1", a, number(t, r, 1), c, api.ErrArg)
					wantGcdErr(t, "the 201st power, and the 200th", a, b, c, api.ErrArg)
					wantGcdErr(t, "the 201st power twice", a, a, c, api.ErrArg)
				}
				wantGcd(t, "the 200th power", b, b, plenty(), b)
				wantGcd(t, "the 200th power, and 0", b, made(t, r), plenty(), b)
			}
		}
	}
}

func TestFieldOverTheIntegers(t *testing.T) { // P21.2: ErrArg, also of 0
	for vars := range 3 {
		r := ring(0, api.Lex, vars)
		for _, l := range [][2]mpoly.Poly{{made(t, r), made(t, r)}, {number(t, r, 1), made(t, r)}, {number(t, r, 2), number(t, r, 3)}} {
			got, err := brown.Field(l[0], l[1], points(0, 9))
			wantErr(t, "Field over the integers", got, err, api.ErrArg)
		}
	}
	got, err := brown.Field(mpoly.Poly{}, mpoly.Poly{}, nil)
	wantErr(t, "Field of zero Polys", got, err, api.ErrArg)
}

// notPrimes are words that Gcd takes for none: among them products that look like primes.
func notPrimes() row {
	return row{0, 1, 2, 4, 9, 15, 561, 2047, 3215031751, 3825123056546413051, 1 << 62, 1 << 63, 9223372036854775837, math.MaxUint64, 18446744073709551557, 97 * 97, greatest - 2}
}

func TestWhatIsNoPrime(t *testing.T) { // P21.3: ErrPrime, wherever it stands, also of 0; over a field no primes are looked at
	z, f := ring(0, api.Lex, 2), ring(97, api.Lex, 2)
	for _, n := range notPrimes() {
		for _, l := range []row{{n}, {n, greatest}, {greatest, n}, append(primes(12), n), {3, 5, n, 7}} {
			c := brown.Choices{Primes: l, Points: points(0, 20)}
			a, b := linear(t, z, 1, 1, 1), linear(t, z, 1, -1, 2)
			wantGcdErr(t, "no prime", a, b, c, api.ErrPrime)
			wantGcdErr(t, "no prime, and 0", a, made(t, z), c, api.ErrPrime)
			wantGcdErr(t, "no prime, of 0 and 0", made(t, z), made(t, z), c, api.ErrPrime)
			wantGcdErr(t, "no prime, of numbers", number(t, z, 6), number(t, z, 4), c, api.ErrPrime)
			wantGcd(t, "no prime, over a field", linear(t, f, 1, 1, 1), linear(t, f, 1, -1, 2), c, number(t, f, 1))
		}
	}
	for _, p := range []uint64{3, 5, 97, 1<<61 - 1, 4611686018427388039, greatest} {
		c := brown.Choices{Primes: row{p}, Points: points(0, 20)}
		wantGcd(t, "a prime, and 0", linear(t, z, 1, 1, 1), made(t, z), c, linear(t, z, 1, 1, 1))
	}
}

func TestTooFewChoices(t *testing.T) { // P21.2, P21.3: ErrBudget
	for _, order := range termOrders() {
		z, f := ring(0, order, 2), ring(greatest, order, 2)
		for _, r := range []api.Ring{z, f} {
			a, b := made(t, r, list{1, 2, 0}, list{-1, 0, 2}), made(t, r, list{1, 2, 0}, list{2, 1, 1}, list{1, 0, 2})
			wantGcdErr(t, "no choices", a, b, brown.Choices{}, api.ErrBudget)
			wantGcdErr(t, "no points", a, b, brown.Choices{Primes: primes(9)}, api.ErrBudget)
			wantGcdErr(t, "one point again and again", a, b, brown.Choices{Primes: primes(9), Points: slices.Repeat(row{5}, 50)}, api.ErrBudget)
		}
		a, b := made(t, z, list{1, 2, 0}, list{-1, 0, 2}), made(t, z, list{1, 2, 0}, list{2, 1, 1}, list{1, 0, 2})
		wantGcdErr(t, "no primes", a, b, brown.Choices{Points: points(0, 50)}, api.ErrBudget)
		wantGcdErr(t, "primes with fewer points than are needed", great(t, a, 3), great(t, b, 3), brown.Choices{Primes: row{3}, Points: row{1, 4, 7, 10}}, api.ErrBudget)
	}
	r := ring(0, api.Lex, 1)
	g := great(t, linear(t, r, 1, 0), 200)
	g = fine(t)(g.Add(linear(t, r, 0, 1)))
	a, b := product(t, g, linear(t, r, 1, 1)), product(t, g, linear(t, r, 1, 2))
	wantGcd(t, "a number of 201 bits by 4 primes of 63", a, b, brown.Choices{Primes: primes(4)}, g)
	wantGcdErr(t, "a number of 201 bits by 3 primes of 63", a, b, brown.Choices{Primes: primes(3)}, api.ErrBudget)
	wantGcdErr(t, "a number of 201 bits by one prime again and again", a, b, brown.Choices{Primes: slices.Repeat(row{greatest}, 20)}, api.ErrBudget)
	wantGcd(t, "a number of 201 bits by primes each of which comes thrice", a, b, brown.Choices{Primes: slices.Repeat(primes(4), 3)}, g)
}

func TestPointsThatAreNotGood(t *testing.T) { // P21.2, P21.3: they cost others
	for _, p := range []uint64{0, 997, greatest} {
		r := ring(p, api.GrLex, 3)
		c := plenty()
		for n := range 6 {
			// At the first points the one is the other one, or a multiple of it.
			unlike := number(t, r, 1)
			for i := range n {
				unlike = product(t, unlike, linear(t, r, 0, 1, 0, -i))
			}
			x, y := linear(t, r, 1, 0, 0, 2), fine(t)(unlike.Add(linear(t, r, 1, 0, 0, 2)))
			if n > 0 {
				wantGcd(t, "the same at the first points", x, y, c, number(t, r, 1))
			}
			g := linear(t, r, 1, 1, 2, 5)
			wantGcd(t, "multiples of one, the same at the first points", product(t, x, g), product(t, y, g, linear(t, r, 0, 1, 0, 9)), c, asItIsToBe(t, g))
			// At the first points the first coefficients are 0: of both, or of one.
			lead := product(t, unlike, linear(t, r, 3, 0, 0, 0))
			u, v := fine(t)(lead.Add(linear(t, r, 0, 1, 1, 1))), fine(t)(lead.Add(linear(t, r, 0, 1, -1, 2)))
			wantPlain(t, "first coefficients that are 0 at the first points", product(t, u, g), product(t, v, g))
			wantPlain(t, "a first coefficient that is 0 at the first points", product(t, u, g), product(t, x, g))
			wantPlain(t, "one's own first coefficient that is 0 at the first points", product(t, u, x), product(t, u, g))
		}
	}
}

func TestPointsAreTakenModuloP(t *testing.T) { // P21.2
	r := ring(97, api.Lex, 2)
	g := made(t, r, list{1, 1, 2}, list{1, 0, 1}, list{1, 0, 0})
	a, b := product(t, g, linear(t, r, 1, 1, 1)), product(t, g, linear(t, r, 1, 2, 5))
	wantGcd(t, "great points", a, b, brown.Choices{Points: row{math.MaxUint64, 1 << 63, 98, 970, 97 + 50, 97 + 60, 1 << 40}}, g)
	wantGcdErr(t, "the same point modulo P", a, b, brown.Choices{Points: row{5, 97 + 5, 2*97 + 5, 3*97 + 5, 4*97 + 5, 5*97 + 5, 6*97 + 5}}, api.ErrBudget)
}

func TestPrimesThatAreNotGood(t *testing.T) { // P21.3: they cost others
	r := ring(0, api.Lex, 2)
	g := made(t, r, list{3, 1, 1}, list{-2, 0, 0})
	for _, bad := range []row{{3}, {3, 5}, {5, 7, 11}, {97}, {3, 5, 7, 11, 13, 17, 19}, {greatest}} {
		all := 1
		for _, p := range bad {
			all *= int(p) // it wraps round for none of them
		}
		c := brown.Choices{Primes: append(slices.Clone(bad), primes(6)[1:]...), Points: points(0, 40)}
		// x + y and x + y + all are the same modulo these primes
		x, y := linear(t, r, 1, 1, 0), linear(t, r, 1, 1, all)
		wantGcd(t, "the same modulo the first primes", x, y, c, number(t, r, 1))
		wantGcd(t, "multiples that are the same modulo the first primes", product(t, x, g), product(t, y, g), c, g)
		wantGcdErr(t, "the same modulo all primes", product(t, x, g), product(t, y, g), brown.Choices{Primes: bad, Points: points(0, 40)}, api.ErrBudget)
		// all x + y has another first term modulo these primes
		u := linear(t, r, all, 1, 0)
		wantGcd(t, "a first number that is 0 modulo the first primes", product(t, u, g), product(t, u, x), c, u)
		wantGcd(t, "first numbers that are 0 modulo the first primes", product(t, u, g), product(t, linear(t, r, all, 1, 1), g), c, g)
		wantGcd(t, "one first number that is 0 modulo the first primes", product(t, u, g), product(t, x, g), c, g)
		// whose other numbers are 0 modulo these primes
		v := linear(t, r, 1, all, 0)
		wantGcd(t, "other numbers that are 0 modulo the first primes", product(t, v, g), product(t, v, x), c, v)
	}
}

func TestSmallPrimes(t *testing.T) { // P21.3: many small ones do what few great ones do
	var small row
	for n := uint64(3); n < 600; n += 2 {
		if mpoly.Check(api.Ring{P: n, Order: api.Lex}) == api.OK {
			small = append(small, n)
		}
	}
	s := source(31)
	for _, order := range termOrders() {
		r := ring(0, order, 2)
		for range 12 {
			g, u, v := s.other(t, r, 3, 3), s.other(t, r, 3, 3), s.other(t, r, 3, 3)
			a, b := product(t, g, u), product(t, g, v)
			wantGcd(t, "by small primes", a, b, brown.Choices{Primes: small, Points: points(0, 600)}, plainGcd(t, a, b))
			back := slices.Clone(small)
			slices.Reverse(back)
			wantGcd(t, "by small primes, the greatest one first", a, b, brown.Choices{Primes: back, Points: points(0, 600)}, plainGcd(t, a, b))
		}
	}
}

func TestAnyChoices(t *testing.T) { // P21.3, T2: right, or ErrBudget
	s := source(32)
	pool := append(row{3, 5, 7, 11, 13, 97, 101, 65537, 998244353}, primes(4)...)
	count := map[api.Errno]int{}
	for i := range 900 {
		r := ring(row{0, 0, 7, 97}[i%4], termOrders()[i%3], 1+i%3)
		g, u, v := s.other(t, r, 3, 3), s.other(t, r, 2, 3), s.other(t, r, 2, 3)
		a, b := product(t, g, u), product(t, g, v)
		var c brown.Choices
		for range s.below(5) {
			c.Primes = append(c.Primes, pool[s.below(len(pool))])
		}
		for range s.below(14) {
			c.Points = append(c.Points, s.word()%20)
		}
		got, err := brown.Gcd(a, b, c)
		count[err]++
		if err == api.OK {
			wantSame(t, "any choices", got, plainGcd(t, a, b))
		} else {
			wantErr(t, "any choices", got, err, api.ErrBudget)
		}
	}
	if count[api.OK] < 400 || count[api.ErrBudget] < 200 {
		t.Errorf("the errors are %v", count)
	}
}

// bad are polynomials of one variable, whose coefficients are given from the highest power
// on, and a prime above 2 to the 62nd modulo which they have more in common than else.
func bad() []struct {
	a, b list
	p    uint64
} {
	return []struct {
		a, b list
		p    uint64
	}{
		{list{-25410, -273643, 329970}, list{-125686, -390990, -119677}, 6583020601345286489},
		{list{-579126, 887152, 588404}, list{85, -287004, 685247}, 8504145193134659773},
		{list{-885545, -621890}, list{592718, 314086, -630583, -347805}, 7516660716498095413},
		{list{-163211, -78819, -218723}, list{903947, 366755, 437285}, 6256798898597413937},
	}
}

// ofOne is a polynomial of the variable v, by its coefficients from the highest power on.
func ofOne(t *testing.T, r api.Ring, v int, c list) mpoly.Poly {
	t.Helper()
	var l []mpoly.Term
	for i, n := range c {
		x := mpoly.Term{E: make(list, len(r.Vars)), C: bigint.Of(n)}
		x.E[v] = len(c) - 1 - i
		l = append(l, x)
	}
	return polyOf(t, r, l)
}

// twelve are so many primes above 2 to the 62nd, each once, with p at a place, if it is not 0.
func twelve(p uint64, at int) row {
	l := primes(12)
	if p != 0 {
		l[at] = p
	}
	return l
}

// lowTwelve are those next to 2 to the 62nd.
func lowTwelve() row {
	var l row
	for n := uint64(1<<62 + 1); len(l) < 12; n += 2 {
		if mpoly.Check(api.Ring{P: n, Order: api.Lex}) == api.OK {
			l = append(l, n)
		}
	}
	return l
}

func TestTwelvePrimesAreEnough(t *testing.T) { // P21.4: without points, whichever they are
	s := source(33)
	const most = 1000000
	for i := range 400 {
		r := ring(0, termOrders()[i%3], 1+i%4)
		v := s.below(len(r.Vars))
		some := func(deg, most int) mpoly.Poly {
			c := make(list, 1+s.below(deg+1))
			for i := range c {
				c[i] = s.below(2*most+1) - most
			}
			return ofOne(t, r, v, c)
		}
		a, b := some(4, most), some(4, most)
		if i%2 == 0 {
			g := some(2, 500)
			a, b = product(t, g, some(2, 600)), product(t, g, some(2, 600))
		}
		for _, l := range []row{twelve(0, 0), lowTwelve()} {
			wantGcd(t, "by twelve primes", a, b, brown.Choices{Primes: l}, plainGcd(t, a, b))
		}
	}
	r := ring(0, api.Lex, 1)
	as := func(n int) mpoly.Poly { return ofOne(t, r, 0, list{n, n, n, n, n}) }
	wantGcd(t, "as great as may be", as(most), as(-most), brown.Choices{Primes: twelve(0, 0)}, as(most))
	wantGcd(t, "as great as may be, and another one", as(most), as(most-1), brown.Choices{Primes: twelve(0, 0)}, as(1))
}

func TestTwelvePrimesOneOfWhichIsNotGood(t *testing.T) { // P21.4: wherever it stands
	for _, c := range bad() {
		for at := range 12 {
			for vars := 1; vars <= 3; vars++ {
				r := ring(0, api.GrevLex, vars)
				a, b := ofOne(t, r, vars-1, c.a), ofOne(t, r, vars-1, c.b)
				choices := brown.Choices{Primes: twelve(c.p, at)}
				wantGcd(t, "a prime that is not good", a, b, choices, number(t, r, 1))
				g := ofOne(t, r, vars-1, list{1, 1})
				wantGcd(t, "a prime that is not good, of multiples", product(t, g, a), product(t, g, b), choices, g)
			}
		}
		f := ring(c.p, api.Lex, 1)
		g, err := brown.Field(ofOne(t, f, 0, c.a), ofOne(t, f, 0, c.b), nil)
		if err != api.OK || g.Deg() < 1 {
			t.Errorf("modulo %d both have%s alone in common, error %d", c.p, short(g), int(err))
		}
		z := ring(0, api.Lex, 1)
		wantGcdErr(t, "only a prime that is not good", ofOne(t, z, 0, c.a), ofOne(t, z, 0, c.b), brown.Choices{Primes: row{c.p}}, api.ErrBudget)
	}
}
