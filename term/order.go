package term

import (
	"cmp"
	"slices"

	"vinculum/api"
)

// Cmp is -1, 0 or 1: a stands behind b, is b, stands ahead of it.
func Cmp(order int, a, b []int) (int, api.Errno) {
	if !alike(a, b) {
		return 0, api.ErrArg
	}
	byPlace := byFirst
	switch order {
	case api.GrevLex:
		byPlace = byLast
		fallthrough
	case api.GrLex:
		if c := cmp.Compare(degree(a), degree(b)); c != 0 {
			return c, api.OK
		}
		fallthrough
	case api.Lex:
		return byPlace(a, b), api.OK
	default:
		return 0, api.ErrArg
	}
}

// byFirst goes by the first place where a and b are not the same: the greater number is ahead.
func byFirst(a, b []int) int { return slices.Compare(a, b) }

// byLast goes by the last place where a and b are not the same: the smaller number is ahead.
func byLast(a, b []int) int {
	for i := len(a) - 1; i >= 0; i-- {
		if a[i] != b[i] {
			return cmp.Compare(b[i], a[i])
		}
	}
	return 0
}
