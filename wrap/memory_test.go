package wrap

import (
	"cmp"
	"go/parser"
	"go/token"
	"os"
	"runtime"
	"slices"
	"strings"
	"sync"
	"testing"
	"unsafe"

	"subeditor/api"
	"subeditor/bare"
	"subeditor/node"
)

// memory is a piece of it: where it begins, and ends.
type memory struct {
	from, to uintptr
}

func textMemory(s string) memory {
	from := uintptr(unsafe.Pointer(unsafe.StringData(s)))
	return memory{from, from + uintptr(len(s))}
}

func listMemory[T any](l []T) memory {
	from := uintptr(unsafe.Pointer(unsafe.SliceData(l)))
	return memory{from, from + uintptr(cap(l))*unsafe.Sizeof(*new(T))}
}

// held are the pieces of memory that a tree is made of.
func held(n api.Node) []memory {
	out := []memory{textMemory(n.Text), listMemory(n.Kids)}
	for _, k := range n.Kids {
		out = append(out, held(k)...)
	}
	return slices.DeleteFunc(out, func(m memory) bool { return m.from == m.to })
}

// apart says whether no two pieces of memory have a byte in common.
func apart(lists ...[]memory) bool {
	l := slices.Concat(lists...)
	slices.SortFunc(l, func(a, b memory) int { return cmp.Compare(a.from, b.from) })
	for i := 1; i < len(l); i++ {
		if l[i].from < l[i-1].to {
			return false
		}
	}
	return true
}

// fresh is a tree none of whose texts or lists shares memory with another one.
func fresh(n api.Node) api.Node {
	out := of(n.Kind, strings.Clone(n.Text))
	for _, k := range n.Kids {
		out.Kids = append(out.Kids, fresh(k))
	}
	return out
}

// some are trees with all that Wrap does: with brackets that stay, or go, and with values.
func some() []api.Node {
	x := of(api.Value, "x")
	as := of(api.As, "", in(of(api.Bin, ",", one, two)), x, in(one))
	out := []api.Node{
		{},
		one,
		in(in(one)),
		of(api.Paren, "x"),
		of(api.Paren, "x", in(as), one),
		of(api.Bin, "not", as, as),
		of(api.Bin, "*", as, of(api.Bin, "*", one, of(api.Bin, "|", in(one), two))),
		of(api.Neg, "x", as, as),
		of(api.Try, "", of(api.Try, "", in(one)), as),
		of(api.Object, "", of(api.Pair, "", x, of(api.Bin, "|", of(api.Neg, "y", as), of(api.Bin, "|", in(as), of(api.Bin, "|", one))))),
		of(99, "\xff", in(of(api.Bin, ",", one, two)), in(in(of(-1, "z")))),
	}
	return append(out, levels(shapes(), 1)...)
}

func TestAnswersAreNewMemory(t *testing.T) {
	for _, was := range some() {
		n := fresh(was)
		a, b := Wrap(n), Wrap(n)
		if !apart(held(n), held(a), held(b)) {
			t.Errorf("Wrap(%s) is no new memory", spelt(n))
		}
		// What nobody holds any more might be given out again.
		runtime.KeepAlive([]any{n, a, b})
	}
}

// Where one list, or text, is handed in many times, each place of the answer has its own.
func TestWhatIsSharedComesOutApart(t *testing.T) {
	op := strings.Clone("|")
	leaf := []api.Node{of(api.Number, strings.Clone("12")), of(api.Neg, strings.Clone("-"), one)}
	pipe := of(api.Bin, op, leaf...)
	n := of(api.Array, "", pipe, in(pipe), of(api.Bin, op, pipe, in(pipe)), of(api.Pair, "", pipe, pipe), of(api.Pair, "", leaf...))
	got := Wrap(n)
	if !apart(held(got)) {
		t.Error("lists or texts of one answer share memory")
	}
	for _, m := range held(n) {
		if !apart(held(got), []memory{m}) {
			t.Error("the answer shares memory with what was handed in")
		}
	}
	if !node.Same(got, wByWords(bare.Bare(n), 1, 0)) {
		t.Errorf("what is shared is wrapped otherwise: %s", spelt(got))
	}
	runtime.KeepAlive(n)
}

// guarded is a tree each of whose lists has more behind its length.
func guarded(n api.Node) api.Node {
	kids := make([]api.Node, 0, len(n.Kids)+2)
	for _, k := range n.Kids {
		kids = append(kids, guarded(k))
	}
	behind := append(kids, in(of(78, "")))
	return api.Node{Kind: n.Kind, Text: n.Text, Kids: behind[:len(kids)]}
}

// guard says whether what stands behind the lists of a tree is still there.
func guard(n api.Node) bool {
	behind := n.Kids[:len(n.Kids)+1][len(n.Kids)]
	return node.Same(behind, in(of(78, ""))) && !slices.ContainsFunc(n.Kids, func(k api.Node) bool { return !guard(k) })
}

func TestWhatIsHandedInStays(t *testing.T) {
	for _, was := range some() {
		n := guarded(was)
		got := Wrap(n)
		Needs(n, 9, 9)
		if !node.Same(n, was) || !guard(n) {
			t.Errorf("%s was handed in, and is changed", spelt(was))
		}
		if !node.Same(got, Wrap(was)) {
			t.Errorf("Wrap of %s hangs on what stands behind its lists", spelt(was))
		}
	}
}

func TestDeepTrees(t *testing.T) {
	const levels = 1 << 16
	x := of(api.Value, "x")
	for name, c := range map[string]struct {
		make func(k api.Node) api.Node
		each int // how many brackets each level has
	}{
		"brackets": {in, 0},
		"Neg":      {func(k api.Node) api.Node { return of(api.Neg, "", k) }, 0},
		"right":    {func(k api.Node) api.Node { return of(api.Bin, "|", one, k) }, 0},
		"left":     {func(k api.Node) api.Node { return of(api.Bin, "-", k, one) }, 0},
		"minus":    {func(k api.Node) api.Node { return of(api.Bin, "-", one, k) }, 1},
		"Try":      {func(k api.Node) api.Node { return of(api.Try, "", k) }, 1},
		"As":       {func(k api.Node) api.Node { return of(api.As, "", k, x, one) }, 1},
		"Def":      {func(k api.Node) api.Node { return of(api.Def, "f", one, k) }, 0},
		"Opt":      {func(k api.Node) api.Node { return of(api.Opt, "", k) }, 0},
	} {
		n := one
		for range levels - 1 {
			n = c.make(n)
		}
		got := Wrap(n)
		if many, want := brackets(got), c.each*(levels-2); many != want {
			t.Errorf("%s: %d brackets, want %d", name, many, want)
		}
		if !bare.Same(got, n) {
			t.Errorf("%s: not the same but for brackets", name)
		}
		value := Wrap(of(api.Pair, "", one, n))
		if !bare.Same(value, of(api.Pair, "", one, n)) {
			t.Errorf("%s: a value is not the same but for brackets", name)
		}
	}
}

// brackets is how many Parens a tree has: the paths of all of them would be too much here.
func brackets(n api.Node) int {
	many := 0
	for todo := []api.Node{n}; len(todo) > 0; {
		last := todo[len(todo)-1]
		todo = append(todo[:len(todo)-1], last.Kids...)
		if last.Kind == api.Paren {
			many++
		}
	}
	return many
}

func TestWideTrees(t *testing.T) {
	const wide = 1 << 17
	pipe := of(api.Bin, "|", one, two)
	for kind, all := range map[int]int{api.Call: 0, api.Try: wide, api.Bin: 1, api.Def: 0, api.As: 1, api.Neg: 1, api.Pair: 0} {
		got := Wrap(of(kind, "|not", slices.Repeat([]api.Node{in(pipe)}, wide)...))
		if many := brackets(got); many != all || bare.Bare(got).Kind != kind || len(bare.Bare(got).Kids) != wide {
			t.Errorf("the Kind %d: %d brackets, want %d", kind, many, all)
		}
	}
}

func TestManyCallsAtOnce(t *testing.T) {
	l := some()
	var all sync.WaitGroup
	for range 8 {
		all.Go(func() {
			for _, n := range l {
				if !node.Same(Wrap(n), wByWords(bare.Bare(n), 1, 0)) || Needs(n, 5, 5) != needsByWords(n, 5, 5) {
					t.Errorf("%s is told otherwise", spelt(n))
				}
			}
		})
	}
	all.Wait()
}

func TestItStandsOnApiPrecAndBare(t *testing.T) {
	files, err := os.ReadDir(".")
	if err != nil {
		t.Fatal(err)
	}
	below := []string{`"subeditor/api"`, `"subeditor/prec"`, `"subeditor/bare"`}
	for _, file := range files {
		if strings.HasSuffix(file.Name(), "_test.go") {
			continue
		}
		f, err := parser.ParseFile(token.NewFileSet(), file.Name(), nil, parser.ImportsOnly)
		if err != nil {
			t.Fatal(err)
		}
		for _, i := range f.Imports {
			if strings.HasPrefix(i.Path.Value, `"subeditor`) && !slices.Contains(below, i.Path.Value) {
				t.Errorf("%s imports %s", file.Name(), i.Path.Value)
			}
		}
	}
}
