package session

import (
	"strings"

	"vinculum/api"
)

// mostBytes is how long a line may be.
const mostBytes = 10000

// Bytes of a line that are not of its words.
const (
	blanks  = " \t"
	naming  = '='
	between = ';' // arguments
	remark  = '#'
)

// Word is a part of a line, and its place.
type Word struct {
	Text string
	At   int
}

// Line is a line's parts.
type Line struct {
	Name Word // empty, if there is none
	Verb Word
	Args []Word
}

// Split is a line's parts; else where it is none, and why.
func Split(s string) (Line, int, api.Errno) {
	l, err := split(s)
	if at, no := told(err); no != api.OK {
		return Line{}, at, no
	}
	return l, 0, api.OK
}

// split is a line's parts; there are none of an empty one.
func split(s string) (Line, error) {
	if len(s) > mostBytes {
		return Line{}, fault{api.ErrLimit, 0}
	}
	x := &scan{text: s}
	x.skip(isBlank)
	if x.isAtEnd() || x.isAt(remark) {
		return Line{}, nil
	}
	l, err := x.line()
	if err != nil {
		return Line{}, err
	}
	return l, nil
}

// scan goes through a text from left to right, never back.
type scan struct {
	text string
	at   int
}

func (x *scan) isAtEnd() bool { return x.at == len(x.text) }

func (x *scan) isAt(c byte) bool { return !x.isAtEnd() && x.text[x.at] == c }

// skip goes behind all bytes of a kind that are ahead; it is these, and where they begin.
func (x *scan) skip(is func(c byte) bool) Word {
	from := x.at
	for !x.isAtEnd() && is(x.text[x.at]) {
		x.at++
	}
	return Word{x.text[from:x.at], from}
}

// stuck is the fault of the byte ahead, or of the end, that may not be there.
func (x *scan) stuck() fault { return fault{api.ErrSyntax, x.at} }

// line is the parts of a line that is not empty, from its first word on. Beside an error it has
// those ahead of the fault.
func (x *scan) line() (l Line, err error) {
	var apart bool
	if l.Verb, apart, err = x.word(); err != nil {
		return l, err
	}
	if x.isAt(naming) {
		x.at++
		x.skip(isBlank)
		l.Name = l.Verb
		if l.Verb, apart, err = x.word(); err != nil {
			return l, err
		}
	}
	switch {
	case x.isAtEnd():
		return l, nil
	case !apart:
		return l, x.stuck()
	}
	l.Args, err = x.arguments()
	return l, err
}

// word is that which must be ahead, and whether blanks are behind it.
func (x *scan) word() (Word, bool, error) {
	if x.isAtEnd() || !isLetter(x.text[x.at]) {
		return Word{}, false, x.stuck()
	}
	w := x.skip(isOfWord)
	return w, x.skip(isBlank).Text != "", nil
}

// arguments are all that is ahead, each one without the blanks at its ends.
func (x *scan) arguments() ([]Word, error) {
	var list []Word
	for {
		x.skip(isBlank)
		w := x.skip(isOfArgument)
		if w.Text == "" {
			return nil, x.stuck()
		}
		w.Text = strings.TrimRight(w.Text, blanks)
		list = append(list, w)
		if x.isAtEnd() {
			return list, nil
		}
		x.at++
	}
}

// pieces are what stands between the blanks of an argument, each one at its place in the line.
func pieces(w Word) []Word {
	var list []Word
	for x := (&scan{text: w.Text}); !x.isAtEnd(); x.skip(isBlank) {
		piece := x.skip(isNoBlank)
		list = append(list, Word{piece.Text, w.At + piece.At})
	}
	return list
}

func isBlank(c byte) bool { return c == ' ' || c == '\t' }

func isNoBlank(c byte) bool { return !isBlank(c) }

func isOfArgument(c byte) bool { return c != between }

func isLetter(c byte) bool { return 'a' <= c && c <= 'z' || 'A' <= c && c <= 'Z' }

func isOfWord(c byte) bool { return isLetter(c) || '0' <= c && c <= '9' || c == '_' }
