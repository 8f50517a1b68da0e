package wrap

import "subeditor/api"

// ask makes of a node what may stand at the place that asks for it.
type ask func(api.Node) api.Node

// seat is a place where operators of the least level, and of tighter ones, stand without brackets, and behind which one of the level follows comes (0: none does).
type seat struct {
	w              *wrapper
	least, follows int
}

// taken is a node as it may stand there.
func (s seat) taken(n api.Node) api.Node {
	if needs(n, s.least, s.follows, s.w.level) {
		return s.w.bracket(n)
	}
	return s.w.inside(n, s.follows)
}

// loose is what may stand where all may, and nothing comes behind.
func (w *wrapper) loose(n api.Node) api.Node {
	return seat{w, loosest, 0}.taken(n)
}

// term is what may stand where the language has a term, or what goes on from one.
func (w *wrapper) term(n api.Node) api.Node {
	switch n.Kind {
	case api.Bin, api.Neg, api.As, api.Label, api.Def, api.Try:
		return w.bracket(n)
	}
	return w.inside(n, 0)
}

// value is what may stand behind a key: of operators `|` alone, the right of two first.
func (w *wrapper) value(n api.Node) api.Node {
	if n.Kind == api.Bin && n.Text == "|" && len(n.Kids) == 2 {
		return of(api.Bin, n.Text, w.unit(n.Kids[0]), w.value(n.Kids[1]))
	}
	return w.unit(n)
}

// unit is what may stand on each side of that `|`.
func (w *wrapper) unit(n api.Node) api.Node {
	if n.Kind == api.Neg && len(n.Kids) == 1 {
		return of(api.Neg, "", w.unit(n.Kids[0]))
	}
	return w.term(n)
}
