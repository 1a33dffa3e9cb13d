package nat

import (
	"math/bits"
	"strconv"
	"strings"

	"vinculum/api"
)

// A group is as many digits as always fit in a word.
const (
	groupDigits = 19
	groupBase   = 10_000_000_000_000_000_000
	maxDigits   = 20000
)

// Parse is the number of decimal digits.
func Parse(s string) (Nat, api.Errno) {
	if !isNumber(s) {
		return nil, api.ErrSyntax
	}
	if len(s) > maxDigits {
		return nil, api.ErrLimit
	}
	z := make(Nat, 0, len(s)/groupDigits+1)
	for len(s) > 0 {
		// The first group alone may be short.
		n := (len(s)-1)%groupDigits + 1
		z = withGroup(z, groupOf(s[:n]))
		s = s[n:]
	}
	return z, api.OK
}

// Print is a number's decimal digits.
func Print(x Nat) string {
	left := Norm(x)
	if len(left) == 0 {
		return "0"
	}
	var groups []uint64
	for len(left) > 0 {
		groups = append(groups, divBy(left, groupBase))
		left = trimmed(left)
	}
	last := len(groups) - 1
	var b strings.Builder
	b.WriteString(strconv.FormatUint(groups[last], 10))
	for i := last - 1; i >= 0; i-- {
		digits := strconv.FormatUint(groups[i], 10)
		b.WriteString(strings.Repeat("0", groupDigits-len(digits)))
		b.WriteString(digits)
	}
	return b.String()
}

// isNumber tells whether s is digits without a 0 too much ahead of them.
func isNumber(s string) bool {
	for i := range len(s) {
		if s[i] < '0' || s[i] > '9' {
			return false
		}
	}
	return s == "0" || s != "" && s[0] != '0'
}

// groupOf is the word of up to 19 digits.
func groupOf(s string) uint64 {
	var w uint64
	for i := range len(s) {
		w = 10*w + uint64(s[i]-'0')
	}
	return w
}

// withGroup is z times a group's base, and the group; it is written over z.
func withGroup(z Nat, group uint64) Nat {
	over := group
	for i, w := range z {
		high, low := bits.Mul64(w, groupBase)
		low, carry := bits.Add64(low, over, 0)
		z[i] = low
		over = high + carry
	}
	if over != 0 {
		z = append(z, over)
	}
	return z
}
