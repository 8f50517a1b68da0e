package parse

import (
	"strconv"
	"strings"
	"testing"

	"subeditor/api"
	"subeditor/items"
	"subeditor/lex"
)

// kinds are what the kinds of nodes are called.
var kinds = []string{
	"None", "Root", "Deep", "Name", "Value", "Number", "String", "Chunk", "Tag", "Array", "Object", "Pair", "Paren",
	"Call", "If", "Try", "Reduce", "Each", "Index", "Slice", "Iter", "Dot", "DotText", "Opt", "Bin", "Neg", "As",
	"Label", "Break", "Def", "Param", "Ident", "KeyExp", "Bring", "Module", "List", "Keys", "KeyPat",
}

// show is a node as a text: its kind, its Text, if it has one, behind a bar, and its Kids.
func show(n api.Node) string {
	s := "?" + strconv.Itoa(n.Kind)
	if n.Kind >= 0 && n.Kind < len(kinds) {
		s = kinds[n.Kind]
	}
	if n.Text != "" {
		s += "|" + n.Text
	}
	if len(n.Kids) == 0 {
		return s
	}
	var l []string
	for _, k := range n.Kids {
		l = append(l, show(k))
	}
	return s + "(" + strings.Join(l, " ") + ")"
}

// tokens are those of a source that count.
func tokens(t *testing.T, s string) []api.Tok {
	t.Helper()
	l, err, at := lex.Tokens(s)
	if err != api.OK {
		t.Fatalf("Tokens(%q): %d at %d", s, err, at)
	}
	_, row := items.Items(l)
	var out []api.Tok
	for _, x := range row {
		out = append(out, x.Tok)
	}
	return out
}

// bare are tokens as items that stand nowhere and have no notes.
func bare(l []api.Tok) []api.Item {
	var out []api.Item
	for _, t := range l {
		out = append(out, api.Item{Tok: t})
	}
	return out
}

// spelt are tokens as one line.
func spelt(l []api.Tok) string {
	var out []string
	for _, t := range l {
		out = append(out, t.Text)
	}
	return strings.Join(out, " ")
}

func tok(kind int, text string) api.Tok {
	return api.Tok{Kind: kind, Text: text}
}

// of is a node.
func of(kind int, text string, kids ...api.Node) api.Node {
	return api.Node{Kind: kind, Text: text, Kids: kids}
}
