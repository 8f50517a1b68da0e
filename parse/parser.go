package parse

import (
	"strings"

	"subeditor/api"
	"subeditor/prec"
	"subeditor/sign"
)

// parser reads items from the left, by a method for each rule. Each item is taken only where some program goes on with it, so the place of the first that is refused is the one to be told.
type parser struct {
	items []api.Item
	at    int
	terms map[api.Tok]func() api.Node
	opers map[api.Tok]oper
}

// start is the parser that stands ahead of all items.
func start(l []api.Item) *parser {
	p := &parser{items: l, opers: map[api.Tok]oper{}}
	p.terms = map[api.Tok]func() api.Node{
		op("."):            p.root,
		op(".."):           p.deep,
		op("["):            p.array,
		op("("):            p.paren,
		op("{"):            p.object,
		word("if"):         p.choice,
		word("reduce"):     p.reduce,
		word("foreach"):    p.each,
		word("break"):      p.leave,
		{Kind: api.Word}:   p.call,
		{Kind: api.Field}:  p.field,
		{Kind: api.Var}:    p.value,
		{Kind: api.Num}:    p.number,
		{Kind: api.Format}: p.format,
		{Kind: api.Quote}:  p.text,
	}
	return p
}

// op and word are the tokens that a rule has by their texts.
func op(text string) api.Tok {
	return api.Tok{Kind: api.Op, Text: text}
}

func word(text string) api.Tok {
	return api.Tok{Kind: api.Word, Text: text}
}

// sort is what a rule tells a token by: an operator and a word of the language's by their texts too, any other by its kind alone.
func sort(t api.Tok) api.Tok {
	if t.Kind == api.Op || t.Kind == api.Word && sign.Key(t.Text) {
		return t
	}
	return api.Tok{Kind: t.Kind}
}

// next is the token of the next item; of no kind, if there is none.
func (p *parser) next() api.Tok {
	if p.ended() {
		return api.Tok{}
	}
	return p.items[p.at].Tok
}

func (p *parser) ended() bool {
	return p.at == len(p.items)
}

// fail ends all reading: the next item can't stand here.
func (p *parser) fail() {
	panic(misplaced(p.at))
}

// take reads the next item, which is there: its text.
func (p *parser) take() string {
	text := strings.Clone(p.next().Text)
	p.at++
	return text
}

// of reads an item of a kind: its text.
func (p *parser) of(kind int) string {
	if p.next().Kind != kind {
		p.fail()
	}
	return p.take()
}

// took reads a token, if it is the next one.
func (p *parser) took(t api.Tok) bool {
	if p.next() != t {
		return false
	}
	p.at++
	return true
}

// must reads a token.
func (p *parser) must(t api.Tok) {
	if !p.took(t) {
		p.fail()
	}
}

// name reads a word that may be bound.
func (p *parser) name() string {
	t := p.next()
	if t.Kind != api.Word || !sign.Plain(t.Text) {
		p.fail()
	}
	return p.take()
}

// variable reads a variable: its name.
func (p *parser) variable() string {
	return strings.TrimPrefix(p.of(api.Var), "$")
}

// list reads one thing, and as many further ones as a token stands between.
func list[T any](p *parser, between api.Tok, read func() T) []T {
	l := []T{read()}
	for p.took(between) {
		l = append(l, read())
	}
	return l
}

// enclosed reads a list in brackets.
func (p *parser) enclosed(open, between, end string, read func() api.Node) []api.Node {
	p.must(op(open))
	l := list(p, op(between), read)
	p.must(op(end))
	return l
}

// oper is a token as an operator: its level (0: it is none), that of what stands behind it, and the one that may not be next behind that (0: each may).
type oper struct {
	level, right, barred int
}

// oper is what the next item is as an operator. What was told is kept: at the end of what it holds each rule asks for the same token again.
func (p *parser) oper() oper {
	t := p.next()
	o, told := p.opers[t]
	if !told {
		o = operOf(prec.Of(t))
		p.opers[t] = o
	}
	return o
}

func operOf(text string) oper {
	if text == "" {
		return oper{}
	}
	o := oper{level: prec.Level(text), right: prec.Right(text)}
	if prec.Side(text) == 0 {
		o.barred = o.level
	}
	return o
}

// node is one of a kind, with its text and its Kids.
func node(kind int, text string, kids ...api.Node) api.Node {
	return api.Node{Kind: kind, Text: text, Kids: kids}
}
