package parse

import "subeditor/api"

// text reads a string, and its format, if one stands ahead.
func (p *parser) text() api.Node {
	format := ""
	if p.next().Kind == api.Format {
		format = p.take()
	}
	return p.quoted(format, p.piece)
}

// format reads a format that a term begins with: with a string behind it is that one's.
func (p *parser) format() api.Node {
	text := p.of(api.Format)
	if p.next().Kind == api.Quote {
		return p.quoted(text, p.piece)
	}
	return node(api.Tag, text)
}

// plain reads a string without a format, and without anything to be worked out.
func (p *parser) plain() api.Node {
	return p.quoted("", p.chunk)
}

// quoted reads a string of pieces.
func (p *parser) quoted(format string, piece func() api.Node) api.Node {
	p.of(api.Quote)
	var kids []api.Node
	for p.next().Kind != api.End {
		kids = append(kids, piece())
	}
	p.of(api.End)
	return node(api.String, format, kids...)
}

func (p *parser) piece() api.Node {
	if p.next().Kind == api.Piece {
		return p.chunk()
	}
	p.of(api.Open)
	n := p.pipe()
	p.of(api.Close)
	return n
}

func (p *parser) chunk() api.Node {
	return node(api.Chunk, p.of(api.Piece))
}
