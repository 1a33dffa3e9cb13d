package brown_test

import (
	"slices"
	"testing"

	"vinculum/api"
	"vinculum/bigint"
	"vinculum/brown"
	"vinculum/mpoly"
)

// group is points, and the numbers at which two polynomials are 0 there.
type group struct {
	roots  list
	points row
}

// groups are some of so many points each, from 0 on, each with roots of its own.
func groups(many int, roots ...list) []group {
	l := make([]group, len(roots))
	for i := range l {
		l[i] = group{roots[i], points(i*many, many)}
	}
	return l
}

// pointsOf are those of all groups, in order.
func pointsOf(l ...group) row {
	var all row
	for _, x := range l {
		all = append(all, x.points...)
	}
	return all
}

// zeros is the product of a variable less each of some numbers.
func zeros[T int | uint64](t *testing.T, r api.Ring, v int, l []T) mpoly.Poly {
	t.Helper()
	a := number(t, r, 1)
	for _, n := range l {
		c := make(list, len(r.Vars)+1)
		c[v], c[len(r.Vars)] = 1, -int(n)
		a = product(t, a, linear(t, r, c...))
	}
	return a
}

// alike are two polynomials of x and y that have 1 in common. But where y is a point of a
// group, both are 0 at the group's roots.
//
// Both are sums of two parts, the first of which is 0 at the roots of all groups, and twice as
// great in the one as in the other. The second one has a product for each group: it is 0 at
// the group's points, and at the roots of all others.
func alike(t *testing.T, r api.Ring, high int, l []group) (a, b mpoly.Poly) {
	t.Helper()
	second, all := made(t, r), number(t, r, 1)
	for i, x := range l {
		all = product(t, all, zeros(t, r, 0, x.roots))
		one := zeros(t, r, 1, x.points)
		for j, other := range l {
			if j != i {
				one = product(t, one, zeros(t, r, 0, other.roots))
			}
		}
		second = fine(t)(second.Add(one))
	}
	e := make(list, len(r.Vars))
	e[0] = high - all.In(0)
	first := fine(t)(all.Scale(mpoly.Term{E: e, C: bigint.Of(1)}))
	a = fine(t)(first.Add(second))
	return a, fine(t)(a.Add(first))
}

// manyRings are some in which there are as many points as the tests take.
func manyRings() []api.Ring {
	return []api.Ring{ring(0, api.Lex, 2), ring(1009, api.GrLex, 2), ring(greatest, api.GrevLex, 2)}
}

func chosen(l row) brown.Choices { return brown.Choices{Primes: primes(1), Points: l} }

func TestManyPointsThatAreNotGood(t *testing.T) { // P21.2, P21.3, R1: more of them than the highest power that there may be
	for _, r := range manyRings() {
		for _, many := range []int{101, 150, mostIn} {
			l := groups(many, list{0}, list{1}, list{5})
			a, b := alike(t, r, mostIn, l)
			bad := pointsOf(l...)
			for _, n := range []int{many + 1, mostIn + 1, 256, 257, 258, len(bad)} {
				wantGcdErr(t, "points that are not good", a, b, chosen(bad[:n]), api.ErrBudget)
			}
			good := uint64(len(bad))
			wantGcd(t, "a good point behind them", a, b, chosen(append(slices.Clone(bad), good)), number(t, r, 1))
			wantGcd(t, "a good point among them", a, b, chosen(slices.Insert(slices.Clone(bad), 270, good)), number(t, r, 1))
		}
	}
}

func TestManyPointsAndADivisor(t *testing.T) { // P21.2, P21.3: points that are not good cost others, as many as are needed
	for _, r := range manyRings() {
		g := made(t, r, list{1, 1, 3}, list{2, 0, 1}, list{3, 1, 0}, list{1, 0, 0})
		l := groups(150, list{0}, list{1})
		a, b := alike(t, r, 160, l)
		x, y, bad := product(t, a, g), product(t, b, g), pointsOf(l...)
		wantGcdErr(t, "multiples, by points that are not good", x, y, chosen(bad), api.ErrBudget)
		wantGcdErr(t, "multiples, by too few that are good", x, y, chosen(append(slices.Clone(bad), 300, 301)), api.ErrBudget)
		wantGcd(t, "multiples, by some more", x, y, chosen(append(slices.Clone(bad), points(300, 8)...)), asItIsToBe(t, g))
	}
}

func TestManyPointsOfTwoKinds(t *testing.T) { // P21.2, P21.3: at some there is more in common than at others, at none nothing
	for _, r := range manyRings() {
		l := groups(130, list{0, 1}, list{2, 3}, list{4}, list{5})
		a, b := alike(t, r, 150, l)
		for _, bad := range []row{pointsOf(l...), pointsOf(l[2], l[3], l[0], l[1]), pointsOf(l[0], l[2], l[1], l[3])} {
			wantGcdErr(t, "two kinds of points that are not good", a, b, chosen(bad), api.ErrBudget)
			wantGcd(t, "two kinds, and a good one", a, b, chosen(append(bad, 520)), number(t, r, 1))
		}
	}
}

func TestManyPointsOfThreeVariables(t *testing.T) { // P21.3: the same at each point of a third variable
	var roots []list
	for i := range 17 {
		roots = append(roots, list{i})
	}
	r, l := ring(0, api.GrevLex, 3), groups(16, roots...)
	a, b := alike(t, r, 20, l)
	g, bad := made(t, r, list{3, 1, 1, 0}, list{2, 1, 0, 0}, list{-1, 0, 0, 1}, list{5, 0, 0, 0}), pointsOf(l...)
	x, y := product(t, a, g), product(t, b, g)
	wantGcdErr(t, "three variables, points that are not good", x, y, chosen(bad), api.ErrBudget)
	wantGcd(t, "three variables, and some that are good", x, y, chosen(append(bad, points(len(bad), 6)...)), asItIsToBe(t, g))
}
