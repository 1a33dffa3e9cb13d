package bigint

import (
	"strings"

	"vinculum/api"
	"vinculum/nat"
)

const minus = "-"

// Parse is the number of a text.
func Parse(s string) (Int, api.Errno) {
	neg := strings.HasPrefix(s, minus)
	abs, err := nat.Parse(strings.TrimPrefix(s, minus))
	if err != api.OK {
		return Int{}, err
	}
	// There is one way alone to write 0.
	if neg && len(abs) == 0 {
		return Int{}, api.ErrSyntax
	}
	return signed(neg, abs), api.OK
}

// Print is a number's text.
func (x Int) Print() string {
	text := ""
	switch {
	case x.neg:
		text = minus
		fallthrough
	default:
		text += nat.Print(x.abs)
	}
	return text
}
