package wrap

import (
	"math/rand"
	"slices"
	"strings"
	"testing"

	"subeditor/api"
	"subeditor/bare"
	"subeditor/items"
	"subeditor/node"
	"subeditor/parse"
)

func tok(kind int, text string) api.Tok {
	return api.Tok{Kind: kind, Text: text}
}

// tokens are those of a tree that a source may have, by the table of the chapter on parse.
func tokens(n api.Node) []api.Tok {
	var out []api.Tok
	say := func(pieces ...any) {
		for _, p := range pieces {
			switch x := p.(type) {
			case string:
				for _, w := range strings.Fields(x) {
					kind := api.Op
					if w[0] >= 'a' && w[0] <= 'z' {
						kind = api.Word
					}
					out = append(out, tok(kind, w))
				}
			case api.Tok:
				out = append(out, x)
			case api.Node:
				out = append(out, tokens(x)...)
			}
		}
	}
	row := func(kids []api.Node, between string) {
		for i, k := range kids {
			if i > 0 {
				say(between)
			}
			say(k)
		}
	}
	k := n.Kids
	switch n.Kind {
	case api.Root:
		say(".")
	case api.Deep:
		say("..")
	case api.Name:
		say(tok(api.Field, "."+n.Text))
	case api.Value:
		say(tok(api.Var, "$"+n.Text))
	case api.Number:
		say(tok(api.Num, n.Text))
	case api.Tag:
		say(tok(api.Format, n.Text))
	case api.String:
		if n.Text != "" {
			say(tok(api.Format, n.Text))
		}
		say(tok(api.Quote, `"`))
		for _, x := range k {
			if x.Kind == api.Chunk {
				say(tok(api.Piece, x.Text))
			} else {
				say(tok(api.Open, `\(`), x, tok(api.Close, ")"))
			}
		}
		say(tok(api.End, `"`))
	case api.Array, api.List:
		say("[")
		row(k, ",")
		say("]")
	case api.Object, api.Keys:
		say("{")
		row(k, ",")
		say("}")
	case api.Pair, api.KeyPat:
		row(k, ":")
	case api.Paren, api.KeyExp:
		say("(")
		row(k, "")
		say(")")
	case api.Call:
		say(tok(api.Word, n.Text))
		if len(k) > 0 {
			say("(")
			row(k, ";")
			say(")")
		}
	case api.If:
		say("if", k[0], "then", k[1])
		for k = k[2:]; len(k) > 1; k = k[2:] {
			say("elif", k[0], "then", k[1])
		}
		if len(k) > 0 {
			say("else", k[0])
		}
		say("end")
	case api.Try:
		say("try")
		row(k, "catch")
	case api.Reduce, api.Each:
		say(map[int]string{api.Reduce: "reduce", api.Each: "foreach"}[n.Kind], k[0], "as", k[1], "(")
		row(k[2:], ";")
		say(")")
	case api.Index:
		say(k[0], n.Text, "[", k[1], "]")
	case api.Slice:
		say(k[0], n.Text, "[", k[1], ":", k[2], "]")
	case api.Iter:
		say(k[0], n.Text, "[", "]")
	case api.Dot:
		say(k[0], tok(api.Field, "."+n.Text))
	case api.DotText:
		say(k[0], ".", k[1])
	case api.Opt:
		say(k[0], "?")
	case api.Bin:
		say(k[0], n.Text, k[1])
	case api.Neg:
		say("-", k[0])
	case api.As:
		say(k[0], "as", k[1], "|", k[2])
	case api.Label:
		say("label", tok(api.Var, "$"+n.Text), "|", k[0])
	case api.Break:
		say("break", tok(api.Var, "$"+n.Text))
	case api.Def:
		say("def", tok(api.Word, n.Text))
		if params := k[:len(k)-2]; len(params) > 0 {
			say("(")
			row(params, ";")
			say(")")
		}
		say(":", k[len(k)-2], ";", k[len(k)-1])
	case api.Module:
		row(k, "")
	case api.Bring:
		say(n.Text)
		row(k, "as")
		say(";")
	case api.Param, api.Ident:
		kind := api.Word
		if n.Text[0] == '$' {
			kind = api.Var
		}
		say(tok(kind, n.Text))
	}
	return out
}

// parsed is the tree that the tokens of a tree have; false, if they have none.
func parsed(n api.Node) (api.Node, bool) {
	var l []api.Item
	for _, t := range tokens(n) {
		l = append(l, api.Item{Tok: t})
	}
	out, err, _ := parse.Program(l)
	return out, err == api.OK
}

// holds says what is wrong with Wrap of a tree without brackets that a source may have: it must be parsed again as it is, and without any one of its brackets as another one, or as none.
func holds(t *testing.T, n api.Node) {
	t.Helper()
	got := Wrap(n)
	again, is := parsed(got)
	if !is || !node.Same(again, got) {
		t.Fatalf("Wrap(%s), parsed again, is %s, %t", spelt(n), spelt(again), is)
	}
	if !node.Same(bare.Bare(got), n) {
		t.Fatalf("Wrap(%s) = %s: not the same but for brackets", spelt(n), spelt(got))
	}
	if !node.Same(Wrap(got), got) {
		t.Fatalf("Wrap of what is wrapped, %s, is %s", spelt(got), spelt(Wrap(got)))
	}
	for _, path := range bare.Brackets(got) {
		less, _ := bare.Without(got, path)
		if again, is := parsed(less); is && bare.Same(again, n) {
			t.Fatalf("Wrap(%s) = %s: without the bracket at %v it is the same", spelt(n), spelt(got), path)
		}
	}
}

// shape makes a node of as many others as it has holes for.
type shape struct {
	holes int
	make  func(k []api.Node) api.Node
}

// core are the shapes that need brackets, or ask for them.
func core() []shape {
	x := of(api.Value, "x")
	key := of(api.Ident, "a")
	var out []shape
	for _, op := range []string{"|", ",", "//", "=", "or", "==", "-", "*"} {
		out = append(out, shape{2, func(k []api.Node) api.Node { return of(api.Bin, op, k[0], k[1]) }})
	}
	return append(out, []shape{
		{1, func(k []api.Node) api.Node { return of(api.Neg, "", k[0]) }},
		{2, func(k []api.Node) api.Node { return of(api.As, "", k[0], x, k[1]) }},
		{1, func(k []api.Node) api.Node { return of(api.Label, "x", k[0]) }},
		{2, func(k []api.Node) api.Node { return of(api.Def, "f", k[0], k[1]) }},
		{1, func(k []api.Node) api.Node { return of(api.Try, "", k[0]) }},
		{1, func(k []api.Node) api.Node { return of(api.Iter, "", k[0]) }},
		{1, func(k []api.Node) api.Node { return of(api.Object, "", of(api.Pair, "", key, k[0])) }},
	}...)
}

// shapes are all of them: each Kind of which a program is made up, with each way in which its Kids may be there, or not.
func shapes() []shape {
	x, y := of(api.Value, "x"), of(api.Value, "y")
	key := of(api.Ident, "a")
	text := func(k ...api.Node) api.Node { return of(api.String, "", append(k, of(api.Chunk, "t"))...) }
	return append(core(), []shape{
		{2, func(k []api.Node) api.Node { return of(api.Bin, "and", k[0], k[1]) }},
		{2, func(k []api.Node) api.Node { return of(api.Bin, "+", k[0], k[1]) }},
		{2, func(k []api.Node) api.Node { return of(api.Bin, "//=", k[0], k[1]) }},
		{2, func(k []api.Node) api.Node { return of(api.Try, "", k[0], k[1]) }},
		{1, func(k []api.Node) api.Node { return of(api.Dot, "a", k[0]) }},
		{2, func(k []api.Node) api.Node { return of(api.DotText, "", k[0], text(k[1])) }},
		{1, func(k []api.Node) api.Node { return of(api.DotText, "", api.Node{}, text(k[0])) }},
		{1, func(k []api.Node) api.Node { return of(api.Opt, "", k[0]) }},
		{1, func(k []api.Node) api.Node { return of(api.Iter, ".", k[0]) }},
		{2, func(k []api.Node) api.Node { return of(api.Index, "", k[0], k[1]) }},
		{2, func(k []api.Node) api.Node { return of(api.Index, ".", k[0], k[1]) }},
		{3, func(k []api.Node) api.Node { return of(api.Slice, "", k[0], k[1], k[2]) }},
		{2, func(k []api.Node) api.Node { return of(api.Slice, ".", k[0], api.Node{}, k[1]) }},
		{2, func(k []api.Node) api.Node { return of(api.Slice, "", k[0], k[1], api.Node{}) }},
		{3, func(k []api.Node) api.Node { return of(api.Reduce, "", k[0], x, k[1], k[2]) }},
		{3, func(k []api.Node) api.Node { return of(api.Each, "", k[0], x, k[1], k[2]) }},
		{4, func(k []api.Node) api.Node {
			return of(api.Each, "", k[0], of(api.List, "", x, y), k[1], k[2], k[3])
		}},
		{2, func(k []api.Node) api.Node {
			return of(api.Object, "", of(api.Pair, "", of(api.KeyExp, "", k[0]), k[1]), of(api.Pair, "", x))
		}},
		{2, func(k []api.Node) api.Node { return of(api.Object, "", of(api.Pair, "", text(k[0]), k[1])) }},
		{2, func(k []api.Node) api.Node {
			return of(api.Object, "", of(api.Pair, "", key), of(api.Pair, "", x, k[0]), of(api.Pair, "", key, k[1]))
		}},
		{1, func(k []api.Node) api.Node { return of(api.Array, "", k[0]) }},
		{2, func(k []api.Node) api.Node { return of(api.If, "", k[0], k[1]) }},
		{3, func(k []api.Node) api.Node { return of(api.If, "else", k[0], k[1], k[2]) }},
		{4, func(k []api.Node) api.Node { return of(api.If, "", k[0], k[1], k[2], k[3]) }},
		{2, func(k []api.Node) api.Node { return of(api.Call, "f", k[0], k[1]) }},
		{2, func(k []api.Node) api.Node { return of(api.String, "@json", k[0], of(api.Chunk, "t"), k[1]) }},
		{2, func(k []api.Node) api.Node {
			return of(api.Def, "f", of(api.Param, "$x"), of(api.Param, "g"), k[0], k[1])
		}},
		{3, func(k []api.Node) api.Node {
			p := of(api.Keys, "", of(api.KeyPat, "", of(api.KeyExp, "", k[1]), x), of(api.KeyPat, "", y))
			return of(api.As, "", k[0], of(api.List, "", p), k[2])
		}},
		{4, func(k []api.Node) api.Node {
			p := of(api.Keys, "", of(api.KeyPat, "", text(k[1]), x))
			return of(api.Reduce, "", k[0], p, k[2], k[3])
		}},
	}...)
}

// leaves are trees without holes.
func leaves() []api.Node {
	return []api.Node{
		of(api.Root, ""), of(api.Deep, ""), of(api.Name, "a"), of(api.Value, "x"), of(api.Number, "1"), of(api.Tag, "@text"),
		of(api.String, ""), of(api.Array, ""), of(api.Object, ""), of(api.Call, "f"), of(api.Break, "x"),
	}
}

// below calls f with each tree that has a shape, one of its holes filled by one of inner, all others by leaves.
func below(l []shape, inner []api.Node, f func(api.Node)) {
	all, next := leaves(), 0
	for _, s := range l {
		for hole := range s.holes {
			for _, n := range inner {
				k := make([]api.Node, s.holes)
				for i := range k {
					k[i] = all[next%len(all)]
					next++
				}
				k[hole] = n
				f(s.make(k))
			}
		}
	}
}

// levels are the trees of so many shapes, one below the other.
func levels(l []shape, many int) []api.Node {
	out := leaves()
	for range many {
		var next []api.Node
		below(l, out, func(n api.Node) { next = append(next, n) })
		out = next
	}
	return out
}

func TestEachShapeInEachOther(t *testing.T) {
	for _, many := range []int{0, 1, 2} {
		for _, n := range levels(shapes(), many) {
			holds(t, n)
		}
	}
}

// Deeper ones that need brackets, or ask for them: `,`, `-`, `*`, Neg, As, Try, and a value behind a key.
func TestCoreShapesOneBelowTheOther(t *testing.T) {
	all := core()
	var l []shape
	for _, place := range []int{1, 6, 7, 8, 9, 12, 14} {
		l = append(l, all[place])
	}
	inner := []api.Node{one}
	for range 3 {
		var next []api.Node
		below(l, inner, func(n api.Node) { next = append(next, n) })
		inner = next
	}
	below(l, inner, func(n api.Node) { holds(t, n) })
}

// All holes filled with what may need brackets.
func TestShapesBesideEachOther(t *testing.T) {
	l := core()
	single := levels(l, 1)
	for _, s := range shapes() {
		for from := range single {
			k := make([]api.Node, s.holes)
			for i := range k {
				k[i] = single[(from+i*7)%len(single)]
			}
			holds(t, s.make(k))
		}
	}
}

// program is a tree by chance that a source may have, of about so many nodes.
func program(rng *rand.Rand, size int) api.Node {
	if size <= 1 {
		l := leaves()
		return l[rng.Intn(len(l))]
	}
	l := shapes()
	s := l[rng.Intn(len(l))]
	k := make([]api.Node, s.holes)
	for i := range k {
		k[i] = program(rng, rng.Intn(size))
	}
	k[rng.Intn(len(k))] = program(rng, size-1)
	return s.make(k)
}

func TestProgramsByChance(t *testing.T) {
	rng := rand.New(rand.NewSource(12))
	for range 6000 {
		holds(t, program(rng, 1+rng.Intn(7)))
	}
}

// What stands outside all: modules, and definitions with nothing behind them.
func TestModulesAndDefinitions(t *testing.T) {
	path := of(api.String, "", of(api.Chunk, "p"))
	include := of(api.Bring, "include", path)
	load := of(api.Bring, "import", path, of(api.Ident, "m"))
	for _, n := range levels(core(), 2) {
		holds(t, of(api.Module, "", load, include, n))
		holds(t, of(api.Def, "f", n, of(api.Def, "g", n, api.Node{})))
		holds(t, of(api.Module, "", include, of(api.Def, "f", n, api.Node{})))
	}
	holds(t, of(api.Module, "", include, api.Node{}))
}

// With brackets put in wherever they may stand, a tree is wrapped as without them.
func TestBracketsAreNotLookedAt(t *testing.T) {
	rng := rand.New(rand.NewSource(13))
	for range 3000 {
		n := program(rng, 1+rng.Intn(6))
		m := node.Copy(n)
		paths := node.Paths(m)
		slices.Reverse(paths)
		for _, path := range paths {
			for range rng.Intn(3) {
				x, _ := node.At(m, path)
				m, _ = node.With(m, path, in(x))
			}
		}
		if got, want := Wrap(m), Wrap(n); !node.Same(got, want) {
			t.Fatalf("Wrap(%s) = %s, want %s", spelt(m), spelt(got), spelt(want))
		}
	}
}

// What is wrapped is spelt as a line, and read from it, by all the layers below.
func TestByWayOfALine(t *testing.T) {
	rng := rand.New(rand.NewSource(14))
	for range 3000 {
		want := Wrap(program(rng, 1+rng.Intn(7)))
		line := items.Line(tokens(want))
		got, err, at := parse.Source(line)
		if err != api.OK || !node.Same(got, want) {
			t.Fatalf("%s is %s, %d at %d", line, spelt(got), err, at)
		}
		if again := Wrap(got); !node.Same(again, want) {
			t.Fatalf("Wrap of %s is %s", line, spelt(again))
		}
	}
}
