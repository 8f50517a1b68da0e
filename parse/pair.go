package parse

import "subeditor/api"

// object reads pairs, of which there may be none.
func (p *parser) object() api.Node {
	p.must(op("{"))
	if p.took(op("}")) {
		return node(api.Object, "")
	}
	kids := list(p, op(","), p.pair)
	p.must(op("}"))
	return node(api.Object, "", kids...)
}

// pair reads a key, and what it is given: only what is worked out must be given something.
func (p *parser) pair() api.Node {
	key := p.key()
	alone := key.Kind != api.KeyExp
	return p.keyed(api.Pair, key, alone, p.given)
}

// keyPat reads a key of a pattern, and the pattern of what it is given: only a variable may stand alone.
func (p *parser) keyPat() api.Node {
	key := p.key()
	alone := key.Kind == api.Value
	return p.keyed(api.KeyPat, key, alone, p.pattern)
}

// keyed reads what stands behind a key, which is nothing only where it may stand alone.
func (p *parser) keyed(kind int, key api.Node, alone bool, behind func() api.Node) api.Node {
	if alone && p.next() != op(":") {
		return node(kind, "", key)
	}
	p.must(op(":"))
	return node(kind, "", key, behind())
}

func (p *parser) key() api.Node {
	switch t := p.next(); {
	case t.Kind == api.Word:
		return node(api.Ident, p.take())
	case t.Kind == api.Var:
		return p.value()
	case t == op("("):
		return node(api.KeyExp, "", p.grouped())
	}
	return p.text()
}

// given reads a pair's value: a comma would end it, so less may stand there than in a pipe.
func (p *parser) given() api.Node {
	n := p.unit()
	if p.next() != op("|") {
		return n
	}
	return node(api.Bin, p.take(), n, p.given())
}

func (p *parser) unit() api.Node {
	if p.next() == op("-") {
		return p.minus(p.unit)
	}
	return p.post()
}

func (p *parser) pattern() api.Node {
	switch p.next() {
	case op("["):
		return node(api.List, "", p.enclosed("[", ",", "]", p.pattern)...)
	case op("{"):
		return node(api.Keys, "", p.enclosed("{", ",", "}", p.keyPat)...)
	}
	return p.value()
}
