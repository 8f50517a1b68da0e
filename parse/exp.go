package parse

import "subeditor/api"

// The levels that the rules name.
const (
	loosest = 1
	negated = 9
)

// program reads all items.
func (p *parser) program() api.Node {
	var brings []api.Node
	for p.next() == word("import") || p.next() == word("include") {
		brings = append(brings, p.bring())
	}
	// Nothing at all is no program, but behind a bring nothing may stand.
	n := api.Node{}
	if len(brings) == 0 || !p.ended() {
		n = p.outer()
	}
	if !p.ended() {
		p.fail()
	}
	if len(brings) == 0 {
		return n
	}
	return node(api.Module, "", append(brings, n)...)
}

// outer reads definitions, behind which nothing need stand, and what stands behind them.
func (p *parser) outer() api.Node {
	if p.next() != word("def") {
		return p.pipe()
	}
	return p.def(func() api.Node {
		if p.ended() {
			return api.Node{}
		}
		return p.outer()
	})
}

// bring reads what a module asks for.
func (p *parser) bring() api.Node {
	text := p.take()
	kids := []api.Node{p.plain()}
	if text == "import" {
		p.must(word("as"))
		kids = append(kids, p.called())
	}
	p.must(op(";"))
	return node(api.Bring, text, kids...)
}

// called reads what a module is called.
func (p *parser) called() api.Node {
	if p.next().Kind == api.Var {
		return p.value()
	}
	return node(api.Ident, p.name())
}

func (p *parser) pipe() api.Node {
	return p.exp(loosest)
}

// exp reads an operand, and what is joined to it by operators that bind as tight as least, or tighter.
func (p *parser) exp(least int) api.Node {
	n := p.operand()
	barred := 0
	for o := p.oper(); o.level >= least; o = p.oper() {
		if o.level == barred {
			p.fail()
		}
		n = node(api.Bin, p.take(), n, p.exp(o.right))
		barred = o.barred
	}
	return n
}

func (p *parser) operand() api.Node {
	switch p.next() {
	case op("-"):
		return p.minus(p.negated)
	case word("def"):
		return p.def(p.pipe)
	case word("label"):
		return p.label()
	case word("try"):
		return p.try()
	}
	n := p.post()
	if !p.took(word("as")) {
		return n
	}
	pattern := p.pattern()
	p.must(op("|"))
	return node(api.As, "", n, pattern, p.pipe())
}

// minus reads a `-`, and behind it what read reads.
func (p *parser) minus(read func() api.Node) api.Node {
	p.must(op("-"))
	return node(api.Neg, "", read())
}

func (p *parser) negated() api.Node {
	return p.exp(negated)
}

// def reads a definition, whose rest is what rest reads.
func (p *parser) def(rest func() api.Node) api.Node {
	p.must(word("def"))
	text := p.name()
	var kids []api.Node
	if p.next() == op("(") {
		kids = p.enclosed("(", ";", ")", p.param)
	}
	p.must(op(":"))
	kids = append(kids, p.pipe())
	p.must(op(";"))
	return node(api.Def, text, append(kids, rest())...)
}

func (p *parser) param() api.Node {
	if p.next().Kind == api.Var {
		return node(api.Param, p.take())
	}
	return node(api.Param, p.name())
}

func (p *parser) label() api.Node {
	p.must(word("label"))
	text := p.variable()
	p.must(op("|"))
	return node(api.Label, text, p.pipe())
}

func (p *parser) try() api.Node {
	p.must(word("try"))
	kids := []api.Node{p.post()}
	if p.took(word("catch")) {
		kids = append(kids, p.post())
	}
	return node(api.Try, "", kids...)
}
