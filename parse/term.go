package parse

import (
	"strings"

	"subeditor/api"
)

// post reads a term, and all that goes on behind it.
func (p *parser) post() api.Node {
	n := p.term()
	for {
		switch t := p.next(); {
		case t.Kind == api.Field:
			n = node(api.Dot, p.fieldName(), n)
		case t == op("."):
			n = p.dotted(n)
		case t == op("["):
			n = p.picked(n, "")
		case p.took(op("?")):
			n = node(api.Opt, "", n)
		default:
			return n
		}
	}
}

// dotted reads a `.` behind a term, and what it goes on with.
func (p *parser) dotted(n api.Node) api.Node {
	dot := p.take()
	if p.next() == op("[") {
		return p.picked(n, dot)
	}
	return node(api.DotText, "", n, p.text())
}

// picked reads the brackets behind a term, ahead of which a dot may stand.
func (p *parser) picked(n api.Node, dot string) api.Node {
	p.must(op("["))
	if p.took(op("]")) {
		return node(api.Iter, dot, n)
	}
	if p.took(op(":")) {
		return node(api.Slice, dot, n, api.Node{}, p.pipeTo("]"))
	}
	from := p.pipe()
	if p.took(op("]")) {
		return node(api.Index, dot, n, from)
	}
	p.must(op(":"))
	if p.took(op("]")) {
		return node(api.Slice, dot, n, from, api.Node{})
	}
	return node(api.Slice, dot, n, from, p.pipeTo("]"))
}

// pipeTo reads a pipe, and the bracket that ends it.
func (p *parser) pipeTo(end string) api.Node {
	n := p.pipe()
	p.must(op(end))
	return n
}

func (p *parser) term() api.Node {
	read, is := p.terms[sort(p.next())]
	if !is {
		p.fail()
	}
	return read()
}

// root reads a `.` that a term begins with: with a string behind it is asked of nothing.
func (p *parser) root() api.Node {
	p.must(op("."))
	switch p.next().Kind {
	case api.Quote, api.Format:
		return node(api.DotText, "", api.Node{}, p.text())
	}
	return node(api.Root, "")
}

func (p *parser) deep() api.Node {
	p.must(op(".."))
	return node(api.Deep, "")
}

func (p *parser) field() api.Node {
	return node(api.Name, p.fieldName())
}

func (p *parser) value() api.Node {
	return node(api.Value, p.variable())
}

func (p *parser) number() api.Node {
	return node(api.Number, p.of(api.Num))
}

func (p *parser) array() api.Node {
	p.must(op("["))
	if p.took(op("]")) {
		return node(api.Array, "")
	}
	return node(api.Array, "", p.pipeTo("]"))
}

func (p *parser) paren() api.Node {
	return node(api.Paren, "", p.grouped())
}

// grouped reads a pipe in round brackets.
func (p *parser) grouped() api.Node {
	p.must(op("("))
	return p.pipeTo(")")
}

// branch is a condition, and what follows.
type branch struct {
	when, then api.Node
}

func (p *parser) choice() api.Node {
	p.must(word("if"))
	var kids []api.Node
	for _, b := range list(p, word("elif"), p.branch) {
		kids = append(kids, b.when, b.then)
	}
	text := ""
	if p.next() == word("else") {
		text = p.take()
		kids = append(kids, p.pipe())
	}
	p.must(word("end"))
	return node(api.If, text, kids...)
}

func (p *parser) branch() branch {
	when := p.pipe()
	p.must(word("then"))
	return branch{when, p.pipe()}
}

func (p *parser) reduce() api.Node {
	kids := p.folded("reduce")
	p.must(op(")"))
	return node(api.Reduce, "", kids...)
}

func (p *parser) each() api.Node {
	kids := p.folded("foreach")
	if p.took(op(";")) {
		kids = append(kids, p.pipe())
	}
	p.must(op(")"))
	return node(api.Each, "", kids...)
}

// folded reads what both folds begin with.
func (p *parser) folded(text string) []api.Node {
	p.must(word(text))
	from := p.post()
	p.must(word("as"))
	pattern := p.pattern()
	p.must(op("("))
	first := p.pipe()
	p.must(op(";"))
	return []api.Node{from, pattern, first, p.pipe()}
}

func (p *parser) leave() api.Node {
	p.must(word("break"))
	return node(api.Break, p.variable())
}

func (p *parser) call() api.Node {
	text := p.take()
	if p.next() != op("(") {
		return node(api.Call, text)
	}
	return node(api.Call, text, p.enclosed("(", ";", ")", p.pipe)...)
}

// fieldName reads a field: its name.
func (p *parser) fieldName() string {
	return strings.TrimPrefix(p.of(api.Field), ".")
}
