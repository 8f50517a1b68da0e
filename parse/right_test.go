package parse

import (
	"slices"
	"strings"
	"testing"

	"subeditor/api"
	"subeditor/prec"
)

// holds says what is wrong with the tree of tokens: the chapter's table must spell it as they are, and each node must stand where it takes as much as may be.
func holds(t *testing.T, l []api.Tok, n api.Node) {
	t.Helper()
	if got := spell(n); !slices.Equal(got, l) {
		t.Errorf("the tree of %q is spelt %q: %s", spelt(l), spelt(got), show(n))
	}
	if !stands(n) {
		t.Errorf("the tree of %q is not the one that takes as much as may be: %s", spelt(l), show(n))
	}
}

// spell are the tokens of a tree, by the chapter's table.
func spell(n api.Node) []api.Tok {
	var out []api.Tok
	say := func(pieces ...any) {
		for _, p := range pieces {
			switch x := p.(type) {
			case string:
				for _, w := range strings.Fields(x) {
					kind := api.Op
					if w[0] >= 'a' && w[0] <= 'z' {
						kind = api.Word
					}
					out = append(out, tok(kind, w))
				}
			case api.Tok:
				out = append(out, x)
			case api.Node:
				out = append(out, spell(x)...)
			}
		}
	}
	row := func(kids []api.Node, between string) {
		for i, k := range kids {
			if i > 0 {
				say(between)
			}
			say(k)
		}
	}
	k := n.Kids
	switch n.Kind {
	case api.None:
	case api.Root:
		say(".")
	case api.Deep:
		say("..")
	case api.Name:
		say(tok(api.Field, "."+n.Text))
	case api.Value:
		say(tok(api.Var, "$"+n.Text))
	case api.Number:
		say(tok(api.Num, n.Text))
	case api.String:
		if n.Text != "" {
			say(tok(api.Format, n.Text))
		}
		say(tok(api.Quote, `"`))
		for _, x := range k {
			if x.Kind == api.Chunk {
				say(tok(api.Piece, x.Text))
			} else {
				say(tok(api.Open, `\(`), x, tok(api.Close, ")"))
			}
		}
		say(tok(api.End, `"`))
	case api.Tag:
		say(tok(api.Format, n.Text))
	case api.Array:
		say("[")
		row(k, "?")
		say("]")
	case api.Object, api.Keys:
		say("{")
		row(k, ",")
		say("}")
	case api.List:
		say("[")
		row(k, ",")
		say("]")
	case api.Pair, api.KeyPat:
		row(k, ":")
	case api.Paren, api.KeyExp:
		say("(", k[0], ")")
	case api.Call:
		say(tok(api.Word, n.Text))
		if len(k) > 0 {
			say("(")
			row(k, ";")
			say(")")
		}
	case api.If:
		say("if", k[0], "then", k[1])
		for k = k[2:]; len(k) > 1; k = k[2:] {
			say("elif", k[0], "then", k[1])
		}
		if len(k) > 0 {
			say("else", k[0])
		}
		say("end")
	case api.Try:
		say("try")
		row(k, "catch")
	case api.Reduce, api.Each:
		say(map[int]string{api.Reduce: "reduce", api.Each: "foreach"}[n.Kind], k[0], "as", k[1], "(")
		row(k[2:], ";")
		say(")")
	case api.Index:
		say(k[0], n.Text, "[", k[1], "]")
	case api.Slice:
		say(k[0], n.Text, "[", k[1], ":", k[2], "]")
	case api.Iter:
		say(k[0], n.Text, "[", "]")
	case api.Dot:
		say(k[0], tok(api.Field, "."+n.Text))
	case api.DotText:
		say(k[0], ".", k[1])
	case api.Opt:
		say(k[0], "?")
	case api.Bin:
		say(k[0], n.Text, k[1])
	case api.Neg:
		say("-", k[0])
	case api.As:
		say(k[0], "as", k[1], "|", k[2])
	case api.Label:
		say("label", tok(api.Var, "$"+n.Text), "|", k[0])
	case api.Break:
		say("break", tok(api.Var, "$"+n.Text))
	case api.Def:
		say("def", tok(api.Word, n.Text))
		if params := k[:len(k)-2]; len(params) > 0 {
			say("(")
			row(params, ";")
			say(")")
		}
		say(":", k[len(k)-2], ";", k[len(k)-1])
	case api.Param:
		if n.Text[0] == '$' {
			say(tok(api.Var, n.Text))
		} else {
			say(tok(api.Word, n.Text))
		}
	case api.Ident:
		say(tok(api.Word, n.Text))
	case api.Bring:
		say(n.Text)
		row(k, "as")
		say(";")
	case api.Module:
		row(k, "")
	default:
		say(tok(-1, "no kind"))
	}
	return out
}

// stands says whether a program may have a tree, and each node of it takes as much as it may.
func stands(n api.Node) bool {
	if n.Kind != api.Module {
		return outermost(n)
	}
	last := len(n.Kids) - 1
	rest := n.Kids[last]
	return n.Text == "" && last > 0 && each(n.Kids[:last], brings) && (nothing(rest) || outermost(rest))
}

// nothing says whether n is a None.
func nothing(n api.Node) bool {
	return n.Kind == api.None && n.Text == "" && len(n.Kids) == 0
}

func brings(n api.Node) bool {
	name := n.Kids[len(n.Kids)-1]
	switch n.Text {
	case "include":
		return n.Kind == api.Bring && len(n.Kids) == 1 && plain(n.Kids[0])
	case "import":
		return n.Kind == api.Bring && len(n.Kids) == 2 && plain(n.Kids[0]) && (name.Kind == api.Ident || name.Kind == api.Value)
	}
	return false
}

func plain(n api.Node) bool {
	return n.Kind == api.String && n.Text == "" && each(n.Kids, func(k api.Node) bool { return k.Kind == api.Chunk })
}

func each(l []api.Node, is func(api.Node) bool) bool {
	return !slices.ContainsFunc(l, func(n api.Node) bool { return !is(n) })
}

// outermost says whether a program may be n: behind its definitions nothing need stand.
func outermost(n api.Node) bool {
	if n.Kind != api.Def {
		return pipe(n)
	}
	last := len(n.Kids) - 1
	return defines(n) && (nothing(n.Kids[last]) || outermost(n.Kids[last]))
}

// defines says whether all of a definition but its rest may be so.
func defines(n api.Node) bool {
	body := len(n.Kids) - 2
	return each(n.Kids[:body], func(k api.Node) bool { return k.Kind == api.Param }) && pipe(n.Kids[body])
}

// pipe says whether n may be a PIPE behind which no operator may come.
func pipe(n api.Node) bool {
	return exp(n, 1, 0)
}

// exp says whether n may be an EXP of a level, behind which operators of that level, and of less tight ones, may come: whatever could take them as its own may not stand there.
func exp(n api.Node, least, follows int) bool {
	k := n.Kids
	switch n.Kind {
	case api.Bin:
		level := prec.Level(n.Text)
		return level >= least && len(k) == 2 && exp(k[0], prec.Left(n.Text), level) && exp(k[1], prec.Right(n.Text), follows)
	case api.Neg:
		return n.Text == "" && follows < 9 && len(k) == 1 && exp(k[0], 9, follows)
	case api.As:
		return n.Text == "" && follows < 1 && len(k) == 3 && post(k[0]) && pattern(k[1]) && exp(k[2], 1, follows)
	case api.Label:
		return follows < 1 && len(k) == 1 && exp(k[0], 1, follows)
	case api.Def:
		return follows < 1 && defines(n) && exp(k[len(k)-1], 1, follows)
	case api.Try:
		return n.Text == "" && (len(k) == 1 || len(k) == 2) && each(k, post)
	}
	return post(n)
}

func post(n api.Node) bool {
	k := n.Kids
	dotted := n.Text == "" || n.Text == "."
	switch n.Kind {
	case api.Dot:
		return len(k) == 1 && post(k[0])
	case api.DotText:
		return n.Text == "" && len(k) == 2 && (nothing(k[0]) || post(k[0])) && text(k[1])
	case api.Iter:
		return dotted && len(k) == 1 && post(k[0])
	case api.Index:
		return dotted && len(k) == 2 && post(k[0]) && pipe(k[1])
	case api.Slice:
		bounds := len(k) == 3 && (nothing(k[1]) || pipe(k[1])) && (nothing(k[2]) || pipe(k[2]))
		return dotted && bounds && post(k[0]) && !(nothing(k[1]) && nothing(k[2]))
	case api.Opt:
		return n.Text == "" && len(k) == 1 && post(k[0])
	}
	return term(n)
}

func term(n api.Node) bool {
	k := n.Kids
	switch n.Kind {
	case api.Root, api.Deep:
		return n.Text == "" && len(k) == 0
	case api.Name, api.Value, api.Number, api.Tag, api.Break:
		return len(k) == 0
	case api.String:
		return text(n)
	case api.Array:
		return n.Text == "" && len(k) <= 1 && each(k, pipe)
	case api.Paren:
		return n.Text == "" && len(k) == 1 && pipe(k[0])
	case api.Object:
		return n.Text == "" && each(k, pair)
	case api.Call:
		return each(k, pipe)
	case api.If:
		odd := n.Text == "else"
		return (odd || n.Text == "") && len(k) > 1 && odd == (len(k)%2 == 1) && each(k, pipe)
	case api.Reduce:
		return n.Text == "" && len(k) == 4 && post(k[0]) && pattern(k[1]) && each(k[2:], pipe)
	case api.Each:
		return n.Text == "" && (len(k) == 4 || len(k) == 5) && post(k[0]) && pattern(k[1]) && each(k[2:], pipe)
	}
	return false
}

func text(n api.Node) bool {
	return n.Kind == api.String && each(n.Kids, func(k api.Node) bool {
		return k.Kind == api.Chunk && len(k.Kids) == 0 || pipe(k)
	})
}

func pair(n api.Node) bool {
	k := n.Kids
	alone := len(k) == 1 && k[0].Kind != api.KeyExp
	return n.Kind == api.Pair && n.Text == "" && (alone || len(k) == 2 && given(k[1])) && key(k[0])
}

func key(n api.Node) bool {
	switch n.Kind {
	case api.Ident, api.Value:
		return len(n.Kids) == 0
	case api.KeyExp:
		return n.Text == "" && len(n.Kids) == 1 && pipe(n.Kids[0])
	}
	return text(n)
}

func given(n api.Node) bool {
	if n.Kind == api.Bin {
		return n.Text == "|" && len(n.Kids) == 2 && unit(n.Kids[0]) && given(n.Kids[1])
	}
	return unit(n)
}

func unit(n api.Node) bool {
	if n.Kind == api.Neg {
		return n.Text == "" && len(n.Kids) == 1 && unit(n.Kids[0])
	}
	return post(n)
}

func pattern(n api.Node) bool {
	k := n.Kids
	switch n.Kind {
	case api.Value:
		return len(k) == 0
	case api.List:
		return n.Text == "" && len(k) > 0 && each(k, pattern)
	case api.Keys:
		return n.Text == "" && len(k) > 0 && each(k, keyPat)
	}
	return false
}

func keyPat(n api.Node) bool {
	k := n.Kids
	alone := len(k) == 1 && k[0].Kind == api.Value
	return n.Kind == api.KeyPat && n.Text == "" && (alone || len(k) == 2 && pattern(k[1])) && key(k[0])
}
