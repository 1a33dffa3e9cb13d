package lang

import (
	"slices"
	"strconv"
	"strings"

	"vinculum/api"
	"vinculum/mpoly"
)

// Print is a polynomial's text.
func Print(a mpoly.Poly) string {
	if a.Len() == 0 {
		return "0"
	}
	vars := a.Ring().Vars
	var b strings.Builder
	for i, t := range a.Terms() {
		below := t.C.Sign() < 0
		if below {
			t.C = t.C.Neg()
		}
		b.WriteString(signAhead(i == 0, below))
		b.WriteString(termText(vars, t))
	}
	return b.String()
}

// signAhead is what stands ahead of a term, by whether it is the first one, and below 0.
func signAhead(first, below bool) string {
	switch {
	case first && below:
		return "-"
	case first:
		return ""
	case below:
		return " - "
	default:
		return " + "
	}
}

// termText is a term that is above 0.
func termText(vars []string, t mpoly.Term) string {
	var factors []string
	for v, n := range t.E {
		if n > 0 {
			factors = append(factors, powerText(vars[v], n))
		}
	}
	// Only 1 has one bit.
	if t.C.Bits() > 1 || len(factors) == 0 {
		factors = slices.Insert(factors, 0, t.C.Print())
	}
	return strings.Join(factors, "*")
}

func powerText(name string, n int) string {
	if n == 1 {
		return name
	}
	return name + "^" + strconv.Itoa(n)
}

// Read is a polynomial of a text that Print wrote.
func Read(r api.Ring, s string) (mpoly.Poly, api.Errno) {
	a, _, err := Parse(r, s)
	if err != api.OK {
		return mpoly.Poly{}, err
	}
	if Print(a) != s {
		return mpoly.Poly{}, api.ErrSyntax
	}
	return a, api.OK
}
