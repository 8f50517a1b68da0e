package bare

import (
	"cmp"
	"go/parser"
	"go/token"
	"os"
	"runtime"
	"slices"
	"strings"
	"sync"
	"testing"
	"unsafe"

	"subeditor/api"
	"subeditor/node"
)

// memory is a piece of it: where it begins, and ends.
type memory struct {
	from, to uintptr
}

func textMemory(s string) memory {
	from := uintptr(unsafe.Pointer(unsafe.StringData(s)))
	return memory{from, from + uintptr(len(s))}
}

func listMemory[T any](l []T) memory {
	from := uintptr(unsafe.Pointer(unsafe.SliceData(l)))
	return memory{from, from + uintptr(cap(l))*unsafe.Sizeof(*new(T))}
}

// held are the pieces of memory that a tree is made of.
func held(n api.Node) []memory {
	out := []memory{textMemory(n.Text), listMemory(n.Kids)}
	for _, k := range n.Kids {
		out = append(out, held(k)...)
	}
	return slices.DeleteFunc(out, func(m memory) bool { return m.from == m.to })
}

// apart says whether no two pieces of memory have a byte in common.
func apart(lists ...[]memory) bool {
	l := slices.Concat(lists...)
	slices.SortFunc(l, func(a, b memory) int { return cmp.Compare(a.from, b.from) })
	for i := 1; i < len(l); i++ {
		if l[i].from < l[i-1].to {
			return false
		}
	}
	return true
}

// fresh is a tree none of whose texts or lists shares memory with another one.
func fresh(n api.Node) api.Node {
	out := of(n.Kind, strings.Clone(n.Text))
	for _, k := range n.Kids {
		out.Kids = append(out.Kids, fresh(k))
	}
	return out
}

func TestAnswersAreNewMemory(t *testing.T) {
	for _, n := range some() {
		n := fresh(n)
		a, b := Bare(n), Bare(n)
		if !apart(held(n), held(a), held(b)) {
			t.Errorf("Bare(%s) is no new memory", spelt(n))
		}
		paths, again := Brackets(n), Brackets(n)
		var l []memory
		for _, path := range slices.Concat(paths, again) {
			if cap(path) > 0 {
				l = append(l, listMemory(path))
			}
		}
		if cap(paths) > 0 {
			l = append(l, listMemory(paths), listMemory(again))
		}
		if !apart(l) {
			t.Errorf("Brackets(%s) share memory", spelt(n))
		}
		for _, path := range paths {
			x, _ := Without(n, path)
			y, _ := Without(n, path)
			if !apart(held(n), held(x), held(y)) {
				t.Errorf("Without(%s, %v) is no new memory", spelt(n), path)
			}
		}
		// What nobody holds any more might be given out again.
		runtime.KeepAlive([]any{n, a, b, paths, again})
	}
}

// Where one list, or text, is handed in many times, each place of the answer has its own.
func TestWhatIsSharedComesOutApart(t *testing.T) {
	leaf := []api.Node{of(1, strings.Clone("leaf")), of(2, "")}
	one := of(api.Paren, "", of(24, leaf[0].Text, leaf...))
	n := of(9, "", one, one, of(24, "", leaf[:1]...))
	x, ok := Without(n, []int{1})
	for name, got := range map[string]api.Node{"Bare": Bare(n), "Without": x} {
		if l := held(got); !apart(l) {
			t.Errorf("%s: lists or texts of one answer share memory", name)
		}
		for _, m := range held(n) {
			if !apart(held(got), []memory{m}) {
				t.Errorf("%s: the answer shares memory with what was handed in", name)
			}
		}
	}
	if !ok || !node.Same(x, withoutByWords(n, []int{1})) {
		t.Error("what is shared is told otherwise")
	}
	runtime.KeepAlive(n)
}

// guarded is a tree each of whose lists has a bracket behind its length.
func guarded(n api.Node) api.Node {
	kids := make([]api.Node, 0, len(n.Kids)+2)
	for _, k := range n.Kids {
		kids = append(kids, guarded(k))
	}
	behind := append(kids, in(1, of(78, "")))
	return api.Node{Kind: n.Kind, Text: n.Text, Kids: behind[:len(kids)]}
}

// guard says whether what stands behind the lists of a tree is still there.
func guard(n api.Node) bool {
	behind := n.Kids[:len(n.Kids)+1][len(n.Kids)]
	return node.Same(behind, in(1, of(78, ""))) && !slices.ContainsFunc(n.Kids, func(k api.Node) bool { return !guard(k) })
}

func TestWhatIsHandedInStays(t *testing.T) {
	for _, was := range some() {
		n := guarded(was)
		againstWords(t, n)
		for _, path := range node.Paths(was) {
			behind := append(slices.Clone(path), 5, 6)
			before := slices.Clone(behind)
			Without(n, behind[:len(path)])
			if !slices.Equal(behind, before) {
				t.Errorf("the path %v is now %v", before, behind)
			}
		}
		if !node.Same(n, was) || !guard(n) {
			t.Errorf("%s was handed in, and is changed", spelt(was))
		}
	}
}

func TestManyCallsAtOnce(t *testing.T) {
	l := some()
	var all sync.WaitGroup
	for range 8 {
		all.Go(func() {
			for _, n := range l {
				if !node.Same(Bare(n), bareByWords(n)) || !samePaths(Brackets(n), bracketsByWords(n)) || !Same(n, n) {
					t.Errorf("%s is told otherwise", spelt(n))
				}
			}
		})
	}
	all.Wait()
}

func TestItStandsOnApiAndNode(t *testing.T) {
	files, err := os.ReadDir(".")
	if err != nil {
		t.Fatal(err)
	}
	for _, file := range files {
		if strings.HasSuffix(file.Name(), "_test.go") {
			continue
		}
		f, err := parser.ParseFile(token.NewFileSet(), file.Name(), nil, parser.ImportsOnly)
		if err != nil {
			t.Fatal(err)
		}
		for _, i := range f.Imports {
			own := strings.HasPrefix(i.Path.Value, `"subeditor`)
			if own && i.Path.Value != `"subeditor/api"` && i.Path.Value != `"subeditor/node"` {
				t.Errorf("%s imports %s", file.Name(), i.Path.Value)
			}
		}
	}
}
