package mpoly

import (
	"slices"

	"vinculum/api"
	"vinculum/prime"
)

// longestName is how many bytes a variable's name may have.
const longestName = 32

// Check is what is wrong with a ring.
func Check(r api.Ring) api.Errno {
	switch {
	case r.Order < api.Lex || r.Order > api.GrevLex || len(r.Vars) > api.MaxVars:
		return api.ErrArg
	case !areNames(r.Vars):
		return api.ErrName
	case r.P != 0 && (r.P >= api.MaxWord || !prime.Is(r.P)):
		return api.ErrPrime
	default:
		return api.OK
	}
}

// Same tells whether two rings are one.
func Same(a, b api.Ring) bool {
	return a.P == b.P && a.Order == b.Order && slices.Equal(a.Vars, b.Vars)
}

// areNames tells whether all are names, each of them once.
func areNames(l []string) bool {
	for i, name := range l {
		if !isName(name) || slices.Contains(l[:i], name) {
			return false
		}
	}
	return true
}

// isName goes byte by byte: all runes that a name may have are bytes.
func isName(s string) bool {
	if s == "" || len(s) > longestName || !isLetter(s[0]) {
		return false
	}
	for i := range len(s) {
		if !isLetter(s[i]) && !isDigit(s[i]) && s[i] != '_' {
			return false
		}
	}
	return true
}

func isLetter(c byte) bool { return 'a' <= c && c <= 'z' || 'A' <= c && c <= 'Z' }

func isDigit(c byte) bool { return '0' <= c && c <= '9' }
