package lang_test

import (
	"math/big"
	"strings"
	"testing"

	"vinculum/api"
	"vinculum/bigint"
	"vinculum/lang"
	"vinculum/mpoly"
)

// plainFault is the first thing that is wrong with tokens, told by what is open at each of
// them, without a tree.
func plainFault(tokens []lang.Token, vars []string, end int) (int, api.Errno) {
	open := "" // `(`, and `s` of a factor's sign, that are not at their end
	ready, powers := false, false
	for i, t := range tokens {
		signs := strings.Contains("+-(", t.Text) && t.Kind == lang.Sign
		switch {
		case i > 0 && tokens[i-1].Text == "^":
			if t.Kind != lang.Number {
				return t.At, api.ErrSyntax
			}
			ready, powers = true, false
		case !ready && signs && len(open) >= mostDepth:
			return t.At, api.ErrDepth
		case !ready && t.Text == "(":
			open += "("
		case !ready && signs:
			open += "s"
		case !ready && t.Kind == lang.Sign:
			return t.At, api.ErrSyntax
		case !ready:
			if t.Kind == lang.Name && !strings.Contains(" "+strings.Join(vars, " ")+" ", " "+t.Text+" ") {
				return t.At, api.ErrName
			}
			ready, powers = true, true
		case powers && t.Text == "^":
			ready = false
		case t.Text == "+" || t.Text == "-" || t.Text == "*":
			open = strings.TrimRight(open, "s")
			ready = false
		case t.Text == ")" && strings.Contains(open, "("):
			open = strings.TrimSuffix(strings.TrimRight(open, "s"), "(")
			powers = true
		default:
			return t.At, api.ErrSyntax
		}
	}
	if !ready || strings.Contains(open, "(") {
		return end, api.ErrSyntax
	}
	return 0, api.OK
}

// exponents are those of up to 8 variables.
type exponents [8]int

// plain is a polynomial: a number for each of its terms.
type plain map[exponents]*big.Int

func plainNumber(n *big.Int) plain { return plain{exponents{}: n} }

func (a plain) plus(b plain, c int64) plain {
	sum := plain{}
	for e, x := range a {
		sum[e] = x
	}
	for e, x := range b {
		x = new(big.Int).Mul(x, big.NewInt(c))
		if y := sum[e]; y != nil {
			x.Add(x, y)
		}
		sum[e] = x
	}
	return sum
}

func (a plain) times(b plain) plain {
	product := plain{}
	for e, x := range a {
		for f, y := range b {
			g := e
			for v := range g {
				g[v] += f[v]
			}
			product = product.plus(plain{g: new(big.Int).Mul(x, y)}, 1)
		}
	}
	return product
}

// poly is a plain polynomial of a ring.
func (a plain) poly(t *testing.T, r api.Ring) mpoly.Poly {
	t.Helper()
	var l []mpoly.Term
	for e, x := range a {
		c, err := bigint.Parse(x.String())
		if err != api.OK {
			t.Fatalf("Parse of %s: error %d", x, int(err))
		}
		l = append(l, mpoly.Term{E: e[:len(r.Vars)], C: c})
	}
	return polyOf(t, r, l)
}

// machine works out tokens without a fault by two piles, of values and of signs.
type machine struct {
	vars   []string
	values []plain
	signs  []string // `~` is 0 less, `#` is a sign that does nothing
}

// strong tells how close a sign takes what is beside it.
func strong(sign string) int {
	return strings.IndexAny("(+*~", strings.NewReplacer("-", "+", "#", "~").Replace(sign))
}

func (m *machine) pop() plain {
	last := len(m.values) - 1
	a := m.values[last]
	m.values = m.values[:last]
	return a
}

// work does what the last sign says.
func (m *machine) work() {
	last := len(m.signs) - 1
	b := m.pop()
	switch m.signs[last] {
	case "+":
		b = m.pop().plus(b, 1)
	case "-":
		b = m.pop().plus(b, -1)
	case "*":
		b = m.pop().times(b)
	case "~":
		b = plain{}.plus(b, -1)
	}
	m.values, m.signs = append(m.values, b), m.signs[:last]
}

// workWhile works as long as the last sign is as strong as another one.
func (m *machine) workWhile(strength int) {
	for len(m.signs) > 0 && strong(m.signs[len(m.signs)-1]) >= strength {
		m.work()
	}
}

func (m *machine) raise(n string) {
	power, _ := new(big.Int).SetString(n, 10)
	a, b := m.pop(), plainNumber(big.NewInt(1))
	for range power.Int64() {
		b = b.times(a)
	}
	m.values = append(m.values, b)
}

// atom puts a value.
func (m *machine) atom(t lang.Token) {
	if t.Kind == lang.Number {
		n, _ := new(big.Int).SetString(t.Text, 10)
		m.values = append(m.values, plainNumber(n))
		return
	}
	for v, name := range m.vars {
		if name == t.Text {
			var e exponents
			e[v] = 1
			m.values = append(m.values, plain{e: big.NewInt(1)})
		}
	}
}

// plainValue is the value of tokens without a fault.
func plainValue(tokens []lang.Token, vars []string) plain {
	m := &machine{vars: vars}
	ready := false
	for i, t := range tokens {
		switch {
		case i > 0 && tokens[i-1].Text == "^":
			m.raise(t.Text)
		case t.Kind != lang.Sign:
			m.atom(t)
			ready = true
		case t.Text == ")":
			m.workWhile(1)
			m.signs = m.signs[:len(m.signs)-1]
		case t.Text == "^":
		case ready:
			m.workWhile(strong(t.Text))
			m.signs, ready = append(m.signs, t.Text), false
		default:
			m.signs = append(m.signs, strings.NewReplacer("-", "~", "+", "#").Replace(t.Text))
		}
	}
	m.workWhile(1)
	return m.pop()
}
