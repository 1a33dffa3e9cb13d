package lang

import "vinculum/api"

// mostBytes is how long a text may be, mostDigits how long a Number of it.
const (
	mostBytes  = 100000
	mostDigits = 20000
)

// Signs that are runes beside their bytes.
const (
	minusRune = '\u2212'
	dotRune   = '\u00b7'
	crossRune = '\u00d7'
)

// Tokens are a text's; else where it is wrong, and why.
func Tokens(s string) ([]Token, int, api.Errno) {
	if len(s) > mostBytes {
		return nil, 0, api.ErrLimit
	}
	x := scan{text: s}
	for at, c := range s {
		if goesOn(x.kind, c) {
			continue
		}
		if err := x.end(at); err != api.OK {
			return nil, x.from, err
		}
		if !x.begin(at, c) {
			return nil, at, api.ErrSyntax
		}
	}
	if err := x.end(len(s)); err != api.OK {
		return nil, x.from, err
	}
	return x.list, 0, api.OK
}

// scan is a text, gone through up to some rune.
type scan struct {
	text string
	list []Token
	kind int // of the Number or Name that is not at its end; 0, if there is none
	from int // where it begins
}

// goesOn tells whether a rune belongs to a token ahead of it that is of a kind.
func goesOn(kind int, c rune) bool {
	switch kind {
	case Number:
		return isDigit(c)
	case Name:
		return isLetter(c) || isDigit(c) || c == '_'
	default:
		return false
	}
}

// end is where the token that was not at its end has it.
func (x *scan) end(at int) api.Errno {
	if x.kind == 0 {
		return api.OK
	}
	text := x.text[x.from:at]
	if x.kind == Number {
		if err := checkNumber(text); err != api.OK {
			return err
		}
	}
	x.list = append(x.list, Token{x.kind, text, x.from})
	x.kind = 0
	return api.OK
}

// checkNumber is what is wrong with digits.
func checkNumber(digits string) api.Errno {
	switch {
	case len(digits) > 1 && digits[0] == '0':
		return api.ErrSyntax
	case len(digits) > mostDigits:
		return api.ErrLimit
	default:
		return api.OK
	}
}

// begin takes a rune that belongs to no token ahead of it, if one of a text's may be that.
func (x *scan) begin(at int, c rune) bool {
	switch {
	case isDigit(c):
		x.kind, x.from = Number, at
	case isLetter(c):
		x.kind, x.from = Name, at
	case isBlank(c):
	default:
		sign := signOf(c)
		if sign == "" {
			return false
		}
		x.list = append(x.list, Token{Sign, sign, at})
	}
	return true
}

// signOf is the sign for which a rune stands; empty, if it stands for none.
func signOf(c rune) string {
	switch c {
	case '+', '-', '*', '^', '(', ')':
		return string(c)
	case minusRune:
		return "-"
	case dotRune, crossRune:
		return "*"
	default:
		return ""
	}
}

func isDigit(c rune) bool { return '0' <= c && c <= '9' }

func isLetter(c rune) bool { return 'a' <= c && c <= 'z' || 'A' <= c && c <= 'Z' }

func isBlank(c rune) bool { return c == ' ' || c == '\t' || c == '\n' }
