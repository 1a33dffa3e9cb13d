package lang

import (
	"slices"
	"strings"

	"vinculum/api"
	"vinculum/bigint"
)

// A tree is one of these, or a bigint.Int, which is a Number.
type (
	variable int // its place among the ring's
	negative struct{ of any }
	power    struct {
		of   any
		n    bigint.Int
		sign Token
	}
	product []part
	sum     []part
)

// part is a tree, and the sign ahead of it, among others of a sum or of a product; the first
// one has no sign.
type part struct {
	sign Token
	tree any
}

// parser goes through tokens by the grammar, from left to right, never back.
type parser struct {
	tokens []Token // what is still ahead
	vars   []string
	end    int // the text's length
	within int // how many `(`, and signs of factors, are not at their end
}

// treeOf is the tree of a text's tokens.
func treeOf(tokens []Token, vars []string, end int) (any, fault) {
	p := parser{tokens: tokens, vars: vars, end: end}
	tree, wrong := p.sum()
	if wrong.err == api.OK && len(p.tokens) > 0 {
		return nil, p.stuck()
	}
	return tree, wrong
}

// next is the next token. Behind all it is one of no kind, at the end.
func (p *parser) next() Token {
	if len(p.tokens) == 0 {
		return Token{At: p.end}
	}
	return p.tokens[0]
}

// stuck is the fault of a next token with which the grammar cannot go on.
func (p *parser) stuck() fault { return fault{p.next().At, api.ErrSyntax} }

// take goes behind the next token, if it is of a kind.
func (p *parser) take(kind int) (Token, bool) {
	t := p.next()
	if t.Kind != kind {
		return Token{}, false
	}
	p.tokens = p.tokens[1:]
	return t, true
}

// sign goes behind the next token, if it is one of some signs.
func (p *parser) sign(signs string) (Token, bool) {
	if !strings.Contains(signs, p.next().Text) {
		return Token{}, false
	}
	return p.take(Sign)
}

func (p *parser) sum() (any, fault) {
	list, wrong := p.row("+-", p.product)
	if len(list) == 1 {
		return list[0].tree, wrong
	}
	return sum(list), wrong
}

func (p *parser) product() (any, fault) {
	list, wrong := p.row("*", p.factor)
	if len(list) == 1 {
		return list[0].tree, wrong
	}
	return product(list), wrong
}

// row is parts with one of some signs between each two.
func (p *parser) row(signs string, one func() (any, fault)) ([]part, fault) {
	var list []part
	var ahead Token
	for goes := true; goes; ahead, goes = p.sign(signs) {
		tree, wrong := one()
		if wrong.err != api.OK {
			return nil, wrong
		}
		list = append(list, part{ahead, tree})
	}
	return list, fault{}
}

func (p *parser) factor() (any, fault) {
	sign, is := p.sign("+-")
	if !is {
		return p.power()
	}
	tree, wrong := p.inside(sign, p.factor)
	if sign.Text == "-" {
		tree = less(tree)
	}
	return tree, wrong
}

// less is 0 less a tree.
func less(tree any) any {
	if x, is := tree.(negative); is {
		return x.of
	}
	return negative{tree}
}

// inside is what stands within a sign that was taken.
func (p *parser) inside(sign Token, what func() (any, fault)) (any, fault) {
	if p.within == api.MaxDepth {
		return nil, fault{sign.At, api.ErrDepth}
	}
	p.within++
	tree, wrong := what()
	p.within--
	return tree, wrong
}

func (p *parser) power() (any, fault) {
	tree, wrong := p.atom()
	if wrong.err != api.OK {
		return nil, wrong
	}
	sign, is := p.sign("^")
	if !is {
		return tree, fault{}
	}
	n, is := p.take(Number)
	if !is {
		return nil, p.stuck()
	}
	return power{tree, numberOf(n), sign}, fault{}
}

func (p *parser) atom() (any, fault) {
	if n, is := p.take(Number); is {
		return numberOf(n), fault{}
	}
	if name, is := p.take(Name); is {
		return p.named(name)
	}
	if sign, is := p.sign("("); is {
		return p.bracket(sign)
	}
	return nil, p.stuck()
}

// numberOf is that of a token, at which Tokens has looked.
func numberOf(t Token) bigint.Int {
	n, _ := bigint.Parse(t.Text)
	return n
}

func (p *parser) named(name Token) (any, fault) {
	v := slices.Index(p.vars, name.Text)
	if v < 0 {
		return nil, fault{name.At, api.ErrName}
	}
	return variable(v), fault{}
}

// bracket is what stands behind a `(`, up to its `)`.
func (p *parser) bracket(sign Token) (any, fault) {
	tree, wrong := p.inside(sign, p.sum)
	if wrong.err != api.OK {
		return nil, wrong
	}
	if _, is := p.sign(")"); !is {
		return nil, p.stuck()
	}
	return tree, fault{}
}
