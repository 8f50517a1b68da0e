package wrap

import "subeditor/api"

// rule tells what a node, behind which an operator of the level follows comes, asks for at the place of one of its Kids, from 0 on.
type rule func(w *wrapper, n api.Node, follows, place int) ask

// rules are those of the Kinds that ask for more than others do.
func rules() map[int]rule {
	return map[int]rule{
		api.Bin:     sides,
		api.Neg:     negated,
		api.Label:   labelled,
		api.As:      bound,
		api.Def:     defined,
		api.Try:     tried,
		api.Dot:     headed,
		api.DotText: headed,
		api.Opt:     headed,
		api.Iter:    headed,
		api.Index:   headed,
		api.Slice:   headed,
		api.Reduce:  headed,
		api.Each:    headed,
		api.Pair:    paired,
	}
}

func others(w *wrapper, n api.Node, follows, place int) ask {
	return w.loose
}

func sides(w *wrapper, n api.Node, follows, place int) ask {
	if len(n.Kids) != 2 {
		return w.loose
	}
	o := w.oper(n.Text)
	if place == 0 {
		return seat{w, o.left, o.level}.taken
	}
	return seat{w, o.right, follows}.taken
}

func negated(w *wrapper, n api.Node, follows, place int) ask {
	if place == 0 {
		return seat{w, tightest, follows}.taken
	}
	return w.loose
}

func labelled(w *wrapper, n api.Node, follows, place int) ask {
	if place == 0 {
		return seat{w, loosest, follows}.taken
	}
	return w.loose
}

func bound(w *wrapper, n api.Node, follows, place int) ask {
	switch place {
	case 0:
		return w.term
	case 2:
		return seat{w, loosest, follows}.taken
	}
	return w.loose
}

func defined(w *wrapper, n api.Node, follows, place int) ask {
	if place == len(n.Kids)-1 {
		return seat{w, loosest, follows}.taken
	}
	return w.loose
}

func tried(w *wrapper, n api.Node, follows, place int) ask {
	return w.term
}

func headed(w *wrapper, n api.Node, follows, place int) ask {
	if place == 0 {
		return w.term
	}
	return w.loose
}

func paired(w *wrapper, n api.Node, follows, place int) ask {
	if place == 1 {
		return w.value
	}
	return w.loose
}
