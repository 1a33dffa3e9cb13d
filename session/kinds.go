package session

import (
	"slices"
	"strconv"
	"strings"

	"vinculum/api"
	"vinculum/bigint"
	"vinculum/lang"
	"vinculum/multi"
)

// kind takes an argument, or is what is wrong with it.
type kind func(t *task, w Word) error

// aPoly is that of a name, else that of a text.
func aPoly(t *task, w Word) error {
	a, is := t.in.polys[w.Text]
	if !is {
		var at int
		var no api.Errno
		if a, at, no = lang.Parse(t.in.ring, w.Text); no != api.OK {
			return fault{no, w.At + at}
		}
	}
	t.polys = append(t.polys, a)
	return nil
}

// aCount is a number of times.
func aCount(t *task, w Word) error {
	n, err := natural(w)
	if err != nil {
		return err
	}
	many, is := n.Small()
	if !is || many > api.MaxExp {
		return fault{api.ErrLimit, w.At}
	}
	t.count = many
	return nil
}

func aVar(t *task, w Word) error { return t.choose(w, t.in.ring.Vars) }

func aWay(t *task, w Word) error {
	return t.choose(w, []string{multi.Auto: "auto", multi.Heap: "heap", multi.Kron: "kron", multi.Box: "box", multi.Crt: "crt"})
}

// anOrder is one of these. (None is the 0th one, and no argument is empty.)
func anOrder(t *task, w Word) error {
	return t.choose(w, []string{api.Lex: "lex", api.GrLex: "grlex", api.GrevLex: "grevlex"})
}

// choose takes the one of several names that a word is.
func (t *task) choose(w Word, names []string) error {
	t.choice = slices.Index(names, w.Text)
	if t.choice < 0 {
		return fault{api.ErrName, w.At}
	}
	return nil
}

// aModulus is a list of one number.
func aModulus(t *task, w Word) error {
	l, err := wordsOf(w)
	if err != nil {
		return err
	}
	if len(l) != 1 {
		return fault{api.ErrSyntax, w.At}
	}
	t.lists = append(t.lists, l)
	return nil
}

func aList(t *task, w Word) error {
	l, err := wordsOf(w)
	if err != nil {
		return err
	}
	t.lists = append(t.lists, l)
	return nil
}

// someNumbers are of any size and sign.
func someNumbers(t *task, w Word) error {
	for _, piece := range pieces(w) {
		n, no := bigint.Parse(piece.Text)
		if no != api.OK {
			return fault{api.ErrSyntax, piece.At}
		}
		t.numbers = append(t.numbers, n)
	}
	return nil
}

// someWords may be names, or not.
func someWords(t *task, w Word) error {
	for _, piece := range pieces(w) {
		// What is kept of a line does not keep it.
		t.words = append(t.words, strings.Clone(piece.Text))
	}
	return nil
}

// aName is one that a polynomial has.
func aName(t *task, w Word) error {
	if _, is := t.in.polys[w.Text]; !is {
		return fault{api.ErrNone, w.At}
	}
	t.words = append(t.words, w.Text)
	return nil
}

// wordsOf is a list of words that are numbers, up to the first one that is wrong.
func wordsOf(w Word) ([]uint64, error) {
	var list []uint64
	for _, piece := range pieces(w) {
		if _, err := natural(piece); err != nil {
			return nil, err
		}
		// The digits of a number from 0 on have no fault but that they are too many.
		n, err := strconv.ParseUint(piece.Text, 10, 64)
		if err != nil {
			return nil, fault{api.ErrLimit, piece.At}
		}
		list = append(list, n)
	}
	return list, nil
}

// natural is a number from 0 on.
func natural(w Word) (bigint.Int, error) {
	n, no := bigint.Parse(w.Text)
	if no != api.OK || n.Sign() < 0 {
		return bigint.Int{}, fault{api.ErrSyntax, w.At}
	}
	return n, nil
}
