package node

import (
	"fmt"
	"go/parser"
	"go/token"
	"math"
	"math/rand"
	"os"
	"reflect"
	"runtime"
	"slices"
	"strings"
	"sync"
	"testing"
	"unsafe"

	"subeditor/api"
)

// of is a node.
func of(kind int, text string, kids ...api.Node) api.Node {
	return api.Node{Kind: kind, Text: text, Kids: kids}
}

// some are the trees that most tests go over.
func some() []api.Node {
	return []api.Node{
		{},
		of(api.Root, ""),
		of(api.Name, "a"),
		of(99, "\"\\\n\x00\xff\u00e9\u2028\U0001f600"),
		of(-7, "a b"),
		of(math.MinInt, "(", of(math.MaxInt, ")")),
		of(api.Array, "", of(api.Root, "")),
		of(api.Bin, "-", of(api.Bin, "-", of(api.Number, "1"), of(api.Number, "2")), of(api.Number, "3")),
		of(api.Bin, "-", of(api.Number, "1"), of(api.Bin, "-", of(api.Number, "2"), of(api.Number, "3"))),
		of(api.Paren, "", of(api.Paren, "", of(api.Paren, "", of(api.Root, "")))),
		of(api.Slice, ".", of(api.Name, "a"), api.Node{}, of(api.Neg, "", of(api.Number, "1"))),
		of(api.Object, "", of(api.Pair, "", of(api.Ident, "a")), of(api.Pair, "", of(api.Ident, "b"), of(api.Value, "c")), of(api.Pair, "", of(api.Value, "d"))),
		of(api.Module, "", of(api.Bring, "include", of(api.String, "", of(api.Chunk, "m"))), of(api.Def, "f", of(api.Ident, "g"), of(api.Param, "$x"), of(api.Value, "x"), api.Node{})),
		of(0, "", api.Node{}, api.Node{}, api.Node{}, of(0, "", api.Node{}, api.Node{})),
	}
}

// labels are what a node of a small tree may be beside its Kids.
var labels = []api.Node{{}, {Text: "a"}, {Kind: 1}, {Kind: 1, Text: "a"}}

// small calls f with each tree of n nodes.
func small(n int, f func(api.Node)) {
	rows(n-1, func(kids []api.Node) {
		for _, l := range labels {
			f(api.Node{Kind: l.Kind, Text: l.Text, Kids: slices.Clone(kids)})
		}
	})
}

// rows calls f with each list of trees that have n nodes in all.
func rows(n int, f func([]api.Node)) {
	if n == 0 {
		f(nil)
	}
	for first := 1; first <= n; first++ {
		small(first, func(k api.Node) {
			rows(n-first, func(l []api.Node) { f(append([]api.Node{k}, l...)) })
		})
	}
}

// upTo are all trees of at most n nodes.
func upTo(n int) []api.Node {
	var out []api.Node
	for i := 1; i <= n; i++ {
		small(i, func(x api.Node) { out = append(out, x) })
	}
	return out
}

// chosen is a tree of n nodes by chance.
func chosen(rng *rand.Rand, n int) api.Node {
	out := of(rng.Intn(40)-1, string([]byte{byte(rng.Intn(256)), byte(rng.Intn(256))}[:rng.Intn(3)]))
	for n--; n > 0; {
		size := 1 + rng.Intn(n)
		out.Kids = append(out.Kids, chosen(rng, size))
		n -= size
	}
	return out
}

// many calls f with some trees by chance.
func many(seed int64, times int, f func(rng *rand.Rand, n api.Node)) {
	rng := rand.New(rand.NewSource(seed))
	for range times {
		f(rng, chosen(rng, 1+rng.Intn(30)))
	}
}

// What the chapter's words tell.

func sameByWords(a, b api.Node) bool {
	if a.Kind != b.Kind || a.Text != b.Text || len(a.Kids) != len(b.Kids) {
		return false
	}
	for i := range a.Kids {
		if !sameByWords(a.Kids[i], b.Kids[i]) {
			return false
		}
	}
	return true
}

func deepByWords(n api.Node) int {
	most := 0
	for _, k := range n.Kids {
		most = max(most, deepByWords(k))
	}
	return 1 + most
}

func countByWords(n api.Node) int {
	all := 1
	for _, k := range n.Kids {
		all += countByWords(k)
	}
	return all
}

func pathsByWords(n api.Node) [][]int {
	out := [][]int{{}}
	for i, k := range n.Kids {
		for _, p := range pathsByWords(k) {
			out = append(out, append([]int{i}, p...))
		}
	}
	return out
}

func atByWords(n api.Node, path []int) (api.Node, bool) {
	switch {
	case len(path) == 0:
		return n, true
	case path[0] < 0 || path[0] >= len(n.Kids):
		return api.Node{}, false
	}
	return atByWords(n.Kids[path[0]], path[1:])
}

func withByWords(n api.Node, path []int, x api.Node) api.Node {
	if len(path) == 0 {
		return x
	}
	out := of(n.Kind, n.Text)
	for i, k := range n.Kids {
		if i == path[0] {
			k = withByWords(k, path[1:], x)
		}
		out.Kids = append(out.Kids, k)
	}
	return out
}

func showByWords(n api.Node) string {
	s := fmt.Sprintf("(%d %q", n.Kind, n.Text)
	for _, k := range n.Kids {
		s += showByWords(k)
	}
	return s + ")"
}

func samePaths(a, b [][]int) bool {
	return slices.EqualFunc(a, b, slices.Equal[[]int])
}

func TestSameOfEachPairOfSmallTrees(t *testing.T) {
	l := upTo(4)
	if len(l) != 4+16+2*64+5*256 {
		t.Fatalf("%d small trees", len(l))
	}
	for i, a := range l {
		for j, b := range l {
			if got := Same(a, b); got != (i == j) {
				t.Fatalf("Same(%v, %v) = %t", a, b, got)
			}
		}
	}
}

func TestSame(t *testing.T) {
	for i, a := range some() {
		for j, b := range some() {
			if got := Same(a, b); got != (i == j) {
				t.Errorf("Same(%v, %v) = %t", a, b, got)
			}
		}
	}
	x := of(1, "a")
	for _, c := range []struct {
		name string
		a, b api.Node
	}{
		{"a Kid more at the end", of(9, "", x), of(9, "", x, x)},
		{"an empty Kid more", of(9, "", x), of(9, "", x, api.Node{})},
		{"an empty Kid alone", of(9, ""), of(9, "", api.Node{})},
		{"Kids the other way round", of(9, "", x, of(2, "")), of(9, "", of(2, ""), x)},
		{"a Kid one level down", of(9, "", of(9, "", x), x), of(9, "", of(9, "", x, x))},
		{"another Text below", of(9, "", of(9, "", of(1, "a"))), of(9, "", of(9, "", of(1, "A")))},
		{"another Kind below", of(9, "", of(9, "", of(1, "a"))), of(9, "", of(9, "", of(2, "a")))},
		{"brackets", of(api.Paren, "", x), x},
		{"a Text that is longer", of(1, "a"), of(1, "a\x00")},
		{"what is no UTF-8", of(1, "\xff"), of(1, "\xfe")},
		{"what is no UTF-8, and what stands for it", of(1, "\xff"), of(1, "\ufffd")},
		{"the same letter, spelt by other runes", of(1, "\u00e9"), of(1, "e\u0301")},
		{"kinds that wrap round in fewer bits", of(1, ""), of(1+1<<32, "")},
		{"a kind below nought", of(1, ""), of(-1, "")},
	} {
		if Same(c.a, c.b) || Same(c.b, c.a) {
			t.Errorf("%s: the same", c.name)
		}
		if !Same(c.a, c.a) || !Same(c.b, c.b) {
			t.Errorf("%s: not the same as itself", c.name)
		}
	}
}

// A list that is nil and one that is empty are the same thing.
func TestNoKidsAreAnEmptyList(t *testing.T) {
	a, b := of(9, "", of(1, "x")), of(9, "", api.Node{Kind: 1, Text: "x", Kids: []api.Node{}})
	if !Same(a, b) || !Same(b, a) {
		t.Error("nil and empty Kids are not the same")
	}
	if Deep(b) != 2 || Count(b) != 2 || Show(b) != Show(a) || !samePaths(Paths(b), [][]int{{}, {0}}) {
		t.Errorf("empty Kids: Deep %d, Count %d, Show %s, Paths %v", Deep(b), Count(b), Show(b), Paths(b))
	}
	if _, ok := At(b, []int{0, 0}); ok {
		t.Error("At tells of a Kid in an empty list")
	}
	for _, path := range [][]int{nil, {}} {
		if x, ok := At(a, path); !ok || !Same(x, a) {
			t.Errorf("At(%#v) = %v, %t", path, x, ok)
		}
		if x, ok := With(a, path, b.Kids[0]); !ok || !Same(x, of(1, "x")) {
			t.Errorf("With(%#v) = %v, %t", path, x, ok)
		}
	}
}

func TestDeepAndCount(t *testing.T) {
	for _, c := range []struct {
		n           api.Node
		deep, count int
	}{
		{api.Node{}, 1, 1},
		{of(1, "a b c"), 1, 1},
		{of(9, "", api.Node{}), 2, 2},
		{of(9, "", api.Node{}, api.Node{}), 2, 3},
		{of(9, "", of(9, "", api.Node{})), 3, 3},
		{of(9, "", of(9, "", of(9, "")), of(1, "")), 3, 4},
		{of(9, "", of(1, ""), of(9, "", of(9, ""))), 3, 4},
		{of(9, "", of(1, ""), of(9, "", of(9, "")), of(1, ""), of(9, "", of(1, ""), of(1, ""))), 3, 8},
	} {
		if deep, count := Deep(c.n), Count(c.n); deep != c.deep || count != c.count {
			t.Errorf("%v: Deep %d, Count %d, want %d, %d", c.n, deep, count, c.deep, c.count)
		}
	}
}

func TestAt(t *testing.T) {
	n := of(24, "-", of(24, "+", of(5, "1"), of(5, "2")), of(5, "3"), of(16, "r", of(1, "a"), of(1, "b"), of(1, "c"), of(25, "", of(5, "4"))))
	for _, c := range []struct {
		path []int
		want api.Node
		ok   bool
	}{
		{nil, n, true},
		{[]int{0}, of(24, "+", of(5, "1"), of(5, "2")), true},
		{[]int{1}, of(5, "3"), true},
		{[]int{2}, n.Kids[2], true},
		{[]int{0, 0}, of(5, "1"), true},
		{[]int{0, 1}, of(5, "2"), true},
		{[]int{2, 3}, of(25, "", of(5, "4")), true},
		{[]int{2, 3, 0}, of(5, "4"), true},
		{[]int{3}, api.Node{}, false},
		{[]int{-1}, api.Node{}, false},
		{[]int{0, 2}, api.Node{}, false},
		{[]int{0, -1}, api.Node{}, false},
		{[]int{1, 0}, api.Node{}, false},
		{[]int{2, 3, 0, 0}, api.Node{}, false},
		{[]int{2, 3, 1}, api.Node{}, false},
		{[]int{3, 0}, api.Node{}, false},
		{[]int{-1, 0}, api.Node{}, false},
		{[]int{math.MaxInt}, api.Node{}, false},
		{[]int{math.MinInt}, api.Node{}, false},
		{[]int{0, math.MaxInt, 0}, api.Node{}, false},
		{[]int{1 << 32}, api.Node{}, false},
		{[]int{1 << 32, 0}, api.Node{}, false},
	} {
		got, ok := At(n, c.path)
		if ok != c.ok || !sameByWords(got, c.want) {
			t.Errorf("At(%v) = %v, %t, want %v, %t", c.path, got, ok, c.want, c.ok)
		}
		if !ok && !reflect.DeepEqual(got, api.Node{}) {
			t.Errorf("At(%v) tells nothing, and %#v", c.path, got)
		}
		if _, laid := With(n, c.path, of(1, "")); laid != c.ok {
			t.Errorf("With(%v) = %t, want %t", c.path, laid, c.ok)
		}
	}
}

func TestWith(t *testing.T) {
	n := of(24, "-", of(24, "+", of(5, "1"), of(5, "2")), of(5, "3"))
	x := of(12, "x", of(1, ""))
	for _, c := range []struct {
		path []int
		want string
	}{
		{nil, `(12 "x"(1 ""))`},
		{[]int{0}, `(24 "-"(12 "x"(1 ""))(5 "3"))`},
		{[]int{1}, `(24 "-"(24 "+"(5 "1")(5 "2"))(12 "x"(1 "")))`},
		{[]int{0, 0}, `(24 "-"(24 "+"(12 "x"(1 ""))(5 "2"))(5 "3"))`},
		{[]int{0, 1}, `(24 "-"(24 "+"(5 "1")(12 "x"(1 "")))(5 "3"))`},
	} {
		got, ok := With(n, c.path, x)
		if !ok || showByWords(got) != c.want {
			t.Errorf("With(%v) = %s, %t, want %s", c.path, showByWords(got), ok, c.want)
		}
	}
	// What is laid may be all of what it is laid in, or nothing.
	if got, ok := With(n, []int{1}, n); !ok || showByWords(got) != `(24 "-"(24 "+"(5 "1")(5 "2"))(24 "-"(24 "+"(5 "1")(5 "2"))(5 "3")))` {
		t.Errorf("With itself = %s, %t", showByWords(got), ok)
	}
	if got, ok := With(n, []int{0}, api.Node{}); !ok || showByWords(got) != `(24 "-"(0 "")(5 "3"))` {
		t.Errorf("With nothing = %s, %t", showByWords(got), ok)
	}
	for _, path := range [][]int{{2}, {-1}, {0, 2}, {1, 0}, {0, 0, 0}, {0, -1}, {math.MaxInt}, {math.MinInt, 0}} {
		if got, ok := With(n, path, x); ok || !reflect.DeepEqual(got, api.Node{}) {
			t.Errorf("With(%v) = %#v, %t", path, got, ok)
		}
	}
}

func TestPaths(t *testing.T) {
	for _, c := range []struct {
		n    api.Node
		want [][]int
	}{
		{api.Node{}, [][]int{{}}},
		{of(9, "a", of(1, "")), [][]int{{}, {0}}},
		{of(24, "", of(1, ""), of(1, "")), [][]int{{}, {0}, {1}}},
		{of(24, "", of(24, "", of(1, ""), of(1, "")), of(1, "")), [][]int{{}, {0}, {0, 0}, {0, 1}, {1}}},
		{of(24, "", of(1, ""), of(24, "", of(1, ""), of(1, ""))), [][]int{{}, {0}, {1}, {1, 0}, {1, 1}}},
		{
			of(0, "", of(0, "", of(0, "", of(0, ""))), of(0, ""), of(0, "", of(0, ""), of(0, "", of(0, "")))),
			[][]int{{}, {0}, {0, 0}, {0, 0, 0}, {1}, {2}, {2, 0}, {2, 1}, {2, 1, 0}},
		},
	} {
		if got := Paths(c.n); !samePaths(got, c.want) {
			t.Errorf("Paths(%v) = %v, want %v", c.n, got, c.want)
		}
	}
}

func TestShow(t *testing.T) {
	for _, c := range []struct {
		n    api.Node
		want string
	}{
		{api.Node{}, `(0 "")`},
		{of(api.Root, ""), `(1 "")`},
		{of(api.Name, "a"), `(3 "a")`},
		{of(-1, "a b"), `(-1 "a b")`},
		{of(math.MaxInt, ""), `(9223372036854775807 "")`},
		{of(math.MinInt, ""), `(-9223372036854775808 "")`},
		{of(11, "\"\\'\n\t\r\x00\x7f\a"), `(11 "\"\\'\n\t\r\x00\x7f\a")`},
		{of(11, "\xff\u00e9\u2028\ufeff\U0001f600\ufffd"), `(11 "\xffé\u2028\ufeff` + "\U0001f600\ufffd" + `")`},
		{of(5, `)("`), `(5 ")(\"")`},
		{of(9, "", of(1, "")), `(9 ""(1 ""))`},
		{of(9, "", of(9, "", of(9, ""))), `(9 ""(9 ""(9 "")))`},
		{of(24, "-", of(24, "-", of(5, "1"), of(5, "2")), of(5, "3")), `(24 "-"(24 "-"(5 "1")(5 "2"))(5 "3"))`},
		{of(24, "-", of(5, "1"), of(24, "-", of(5, "2"), of(5, "3"))), `(24 "-"(5 "1")(24 "-"(5 "2")(5 "3")))`},
		{of(0, "", of(0, "", of(0, "", of(0, ""))), of(0, "")), `(0 ""(0 ""(0 ""(0 "")))(0 ""))`},
		{of(0, "", of(0, "", of(0, "", of(0, ""))), of(0, "", of(0, ""))), `(0 ""(0 ""(0 ""(0 "")))(0 ""(0 "")))`},
	} {
		if got := Show(c.n); got != c.want {
			t.Errorf("Show(%v) = %s, want %s", c.n, got, c.want)
		}
	}
}

func TestShowOfEachByte(t *testing.T) {
	for b := range 256 {
		n := of(b, string([]byte{byte(b)}), of(-b, string(rune(b))))
		if got, want := Show(n), showByWords(n); got != want {
			t.Errorf("Show = %s, want %s", got, want)
		}
	}
}

// againstWords holds all that is told of one tree against the chapter's words.
func againstWords(t *testing.T, n api.Node) {
	t.Helper()
	if got, want := Deep(n), deepByWords(n); got != want {
		t.Fatalf("Deep(%v) = %d, want %d", n, got, want)
	}
	if got, want := Count(n), countByWords(n); got != want {
		t.Fatalf("Count(%v) = %d, want %d", n, got, want)
	}
	if got, want := Paths(n), pathsByWords(n); !samePaths(got, want) {
		t.Fatalf("Paths(%v) = %v, want %v", n, got, want)
	}
	if got, want := Show(n), showByWords(n); got != want {
		t.Fatalf("Show(%v) = %s, want %s", n, got, want)
	}
	if got := Copy(n); !sameByWords(got, n) || !Same(got, n) {
		t.Fatalf("Copy(%v) = %v", n, got)
	}
	for _, path := range pathsByWords(n) {
		if len(Paths(n)) != Count(n) || len(path) >= Deep(n) {
			t.Fatalf("%v: path %v, of %d; Deep %d, Count %d", n, path, len(Paths(n)), Deep(n), Count(n))
		}
		got, ok := At(n, path)
		if want, _ := atByWords(n, path); !ok || !sameByWords(got, want) {
			t.Fatalf("At(%v, %v) = %v, %t", n, path, got, ok)
		}
	}
}

func TestAgainstTheChaptersWords(t *testing.T) {
	for _, n := range append(some(), upTo(4)...) {
		againstWords(t, n)
	}
	many(7, 2000, func(_ *rand.Rand, n api.Node) { againstWords(t, n) })
}

// wrong are paths that lead nowhere in a tree.
func wrong(n api.Node) [][]int {
	var out [][]int
	for _, path := range pathsByWords(n) {
		x, _ := atByWords(n, path)
		for _, place := range []int{-1, len(x.Kids), len(x.Kids) + 1, math.MinInt, math.MaxInt} {
			no := append(slices.Clone(path), place)
			out = append(out, no, append(slices.Clone(no), 0))
		}
	}
	return out
}

// ahead says whether a path is another one's, or leads to it.
func ahead(path, of []int) bool {
	return len(path) <= len(of) && slices.Equal(path, of[:len(path)])
}

// What is laid at a path is there, and all else stays.
func layEverywhere(t *testing.T, n, x api.Node) {
	t.Helper()
	paths := pathsByWords(n)
	for _, path := range paths {
		got, ok := With(n, path, x)
		if !ok || !sameByWords(got, withByWords(n, path, x)) {
			t.Fatalf("With(%v, %v, %v) = %v, %t", n, path, x, got, ok)
		}
		if there, ok := At(got, path); !ok || !Same(there, x) {
			t.Fatalf("With(%v, %v, %v) = %v: %v, %t is there", n, path, x, got, there, ok)
		}
		for _, other := range paths {
			was, _ := atByWords(n, other)
			is, ok := At(got, other)
			switch {
			case ahead(path, other): // what was there is gone
			case !ok || is.Kind != was.Kind || is.Text != was.Text || len(is.Kids) != len(was.Kids):
				t.Fatalf("With(%v, %v, %v) = %v: at %v there is %v, %t", n, path, x, got, other, is, ok)
			case !ahead(other, path) && !Same(is, was):
				t.Fatalf("With(%v, %v, %v) = %v: at %v there is %v", n, path, x, got, other, is)
			}
		}
		was, _ := At(n, path)
		if again, ok := With(got, path, was); !ok || !Same(again, n) {
			t.Fatalf("With(%v, %v) of what was there = %v, %t", n, path, again, ok)
		}
	}
	for _, path := range wrong(n) {
		if got, ok := With(n, path, x); ok || !reflect.DeepEqual(got, api.Node{}) {
			t.Fatalf("With(%v, %v, %v) = %v, %t", n, path, x, got, ok)
		}
		if got, ok := At(n, path); ok || !reflect.DeepEqual(got, api.Node{}) {
			t.Fatalf("At(%v, %v) = %v, %t", n, path, got, ok)
		}
	}
}

func TestWhatIsLaidIsThereAndAllElseStays(t *testing.T) {
	for _, n := range some() {
		for _, x := range some() {
			layEverywhere(t, n, x)
		}
	}
	for _, n := range upTo(3) {
		for _, x := range upTo(2) {
			layEverywhere(t, n, x)
		}
	}
	many(8, 300, func(rng *rand.Rand, n api.Node) { layEverywhere(t, n, chosen(rng, 1+rng.Intn(5))) })
}

// A walk may be left at each node; what is told till then is the same.
func TestAWalkMayBeLeft(t *testing.T) {
	for _, n := range some() {
		for left := 1; left <= Count(n); left++ {
			var got [][]int
			for path, x := range walk(n) {
				if want, _ := atByWords(n, path); !sameByWords(x, want) {
					t.Fatalf("%v: at %v a walk tells %v", n, path, x)
				}
				got = append(got, slices.Clone(path))
				if len(got) == left {
					break
				}
			}
			if want := pathsByWords(n)[:left]; !samePaths(got, want) {
				t.Errorf("%v: left behind %d: %v, want %v", n, left, got, want)
			}
		}
	}
}

// memory is a piece of it: where it begins, and ends.
type memory struct {
	from, to uintptr
}

func textMemory(s string) memory {
	from := uintptr(unsafe.Pointer(unsafe.StringData(s)))
	return memory{from, from + uintptr(len(s))}
}

func listMemory[T any](l []T) memory {
	from := uintptr(unsafe.Pointer(unsafe.SliceData(l)))
	return memory{from, from + uintptr(cap(l))*unsafe.Sizeof(*new(T))}
}

// held are the pieces of memory that a tree is made of.
func held(n api.Node) []memory {
	out := []memory{textMemory(n.Text), listMemory(n.Kids)}
	for _, k := range n.Kids {
		out = append(out, held(k)...)
	}
	return slices.DeleteFunc(out, func(m memory) bool { return m.from == m.to })
}

// apart says whether no two pieces of memory have a byte in common.
func apart(l []memory) bool {
	l = slices.Clone(l)
	slices.SortFunc(l, func(a, b memory) int {
		if a.from < b.from {
			return -1
		}
		return 1
	})
	for i := 1; i < len(l); i++ {
		if l[i].from < l[i-1].to {
			return false
		}
	}
	return true
}

// fresh is a tree none of whose texts or lists shares memory with another one.
func fresh(n api.Node) api.Node {
	out := of(n.Kind, strings.Clone(n.Text))
	for _, k := range n.Kids {
		out.Kids = append(out.Kids, fresh(k))
	}
	return out
}

func TestAnswersAreNewMemory(t *testing.T) {
	for _, n := range some() {
		n, x := fresh(n), fresh(of(24, "xx", of(1, "yy"), of(2, "zz")))
		handedIn := slices.Concat(held(n), held(x))
		if !apart(handedIn) {
			t.Fatal("the test's own trees share memory")
		}
		first, again := Copy(n), Copy(n)
		if !apart(slices.Concat(handedIn, held(first), held(again))) {
			t.Errorf("Copy(%v) is no new memory", n)
		}
		for _, path := range pathsByWords(n) {
			a, _ := At(n, path)
			b, _ := At(n, path)
			c, _ := With(n, path, x)
			d, _ := With(n, path, x)
			if !apart(slices.Concat(handedIn, held(a), held(b))) {
				t.Errorf("At(%v, %v) is no new memory", n, path)
			}
			if !apart(slices.Concat(handedIn, held(c), held(d))) {
				t.Errorf("With(%v, %v) is no new memory", n, path)
			}
		}
		shown, anew := Show(n), Show(n)
		if !apart([]memory{textMemory(shown), textMemory(anew)}) {
			t.Errorf("Show(%v) is no new memory", n)
		}
		// What nobody holds any more might be given out again.
		runtime.KeepAlive([]any{n, x, first, again, shown, anew})
	}
}

// Where one list, or text, is handed in many times, each place of the answer has its own.
func TestWhatIsSharedComesOutApart(t *testing.T) {
	leaf := []api.Node{of(1, strings.Clone("leaf")), of(2, "")}
	n := of(9, "", of(24, leaf[0].Text, leaf...), of(24, leaf[0].Text, leaf...), of(24, "", leaf[:1]...))
	whole := held(n)
	at, _ := At(n, nil)
	in, _ := With(n, []int{0, 0}, n)
	x, _ := With(n, []int{2}, n.Kids[2])
	for name, got := range map[string]api.Node{"Copy": Copy(n), "At": at, "With": in, "With what was there": x} {
		if l := held(got); !apart(l) {
			t.Errorf("%s: lists or texts of one answer share memory", name)
		}
		for _, m := range whole {
			if !apart(append(held(got), m)) {
				t.Errorf("%s: the answer shares memory with what was handed in", name)
			}
		}
	}
	if !sameByWords(at, n) || !sameByWords(x, n) || !sameByWords(in, withByWords(n, []int{0, 0}, n)) {
		t.Error("what is shared is told otherwise")
	}
	runtime.KeepAlive(n)
}

func TestPathsShareNothing(t *testing.T) {
	for _, n := range some() {
		first, again := Paths(n), Paths(n)
		var l []memory
		for _, path := range slices.Concat(first, again) {
			if cap(path) > 0 {
				l = append(l, listMemory(path))
			}
		}
		if l = append(l, listMemory(first), listMemory(again)); !apart(l) {
			t.Errorf("Paths(%v) share memory", n)
		}
		for _, path := range first {
			clear(path)
			_ = append(path, -1)
		}
		if !samePaths(again, pathsByWords(n)) || !samePaths(Paths(n), again) {
			t.Errorf("Paths(%v) change with those that came out before", n)
		}
	}
}

// guarded is a tree each of whose lists has a node behind its length.
func guarded(n api.Node) api.Node {
	kids := make([]api.Node, 0, len(n.Kids)+2)
	for _, k := range n.Kids {
		kids = append(kids, guarded(k))
	}
	behind := append(kids, of(77, "behind", of(78, "")))
	return api.Node{Kind: n.Kind, Text: n.Text, Kids: behind[:len(kids)]}
}

// guard says whether what stands behind the lists of a tree is still there.
func guard(n api.Node) bool {
	behind := n.Kids[:len(n.Kids)+1][len(n.Kids)]
	return sameByWords(behind, of(77, "behind", of(78, ""))) && !slices.ContainsFunc(n.Kids, func(k api.Node) bool { return !guard(k) })
}

func TestWhatIsHandedInStays(t *testing.T) {
	for _, was := range some() {
		n, x := guarded(was), guarded(of(24, "x", of(1, "y"), of(2, "z")))
		wasX := fresh(x)
		againstWords(t, n)
		layEverywhere(t, n, x)
		for _, path := range append(wrong(was), pathsByWords(was)...) {
			behind := append(slices.Clone(path), 5, 6)
			handed := behind[:len(path)]
			before := slices.Clone(behind)
			At(n, handed)
			With(n, handed, x)
			if !slices.Equal(behind, before) {
				t.Errorf("the path %v is now %v", before, behind)
			}
		}
		Same(n, x)
		if !sameByWords(n, was) || !guard(n) || !sameByWords(x, wasX) || !guard(x) {
			t.Errorf("%v was handed in, and is changed", was)
		}
	}
}

func TestWhatComesOutIsNotKept(t *testing.T) {
	n := of(9, "", of(24, "+", of(5, "1"), of(5, "2")))
	x := of(24, "x", of(5, "3"))
	laid, _ := With(n, []int{0, 1}, x)
	at, _ := At(n, []int{0})
	copied := Copy(n)
	n.Kids[0].Kids[0].Text = "changed"
	n.Kids[0].Text = "changed"
	x.Kids[0] = of(1, "changed")
	if got, want := Show(laid), `(9 ""(24 "+"(5 "1")(24 "x"(5 "3"))))`; got != want {
		t.Errorf("With is now %s, want %s", got, want)
	}
	if got, want := Show(at), `(24 "+"(5 "1")(5 "2"))`; got != want {
		t.Errorf("At is now %s, want %s", got, want)
	}
	if got, want := Show(copied), `(9 ""(24 "+"(5 "1")(5 "2")))`; got != want {
		t.Errorf("Copy is now %s, want %s", got, want)
	}
}

// nested is n nodes, one in the other.
func nested(n int) api.Node {
	out := of(5, "x")
	for range n - 1 {
		out = of(12, "", out)
	}
	return out
}

func TestDeepTrees(t *testing.T) {
	const levels = 1 << 16
	n := nested(levels)
	path := make([]int, levels-1)
	if Deep(n) != levels || Count(n) != levels {
		t.Errorf("Deep %d, Count %d", Deep(n), Count(n))
	}
	if x, ok := At(n, path); !ok || !Same(x, of(5, "x")) {
		t.Errorf("At = %v, %t", x, ok)
	}
	if _, ok := At(n, append(path, 0)); ok {
		t.Error("At tells of what is too deep")
	}
	laid, ok := With(n, path, of(5, "y"))
	if !ok || Same(laid, n) || Deep(laid) != levels {
		t.Errorf("With = %t, Deep %d", ok, Deep(laid))
	}
	if again, ok := With(laid, path, of(5, "x")); !ok || !Same(again, n) {
		t.Error("With, and back again, is not the same")
	}
	if want := strings.Repeat(`(12 ""`, levels-1) + `(5 "x"` + strings.Repeat(")", levels); Show(n) != want {
		t.Error("Show")
	}
	if !Same(Copy(n), n) || Same(Copy(n), n.Kids[0]) {
		t.Error("Copy")
	}
	const fewer = 3000
	for i, path := range Paths(nested(fewer)) {
		if len(path) != i {
			t.Fatalf("path %d has %d places", i, len(path))
		}
	}
}

func TestWideTrees(t *testing.T) {
	const wide = 1 << 18
	n := of(9, "", slices.Repeat([]api.Node{of(5, "x")}, wide)...)
	n.Kids[wide-1] = of(25, "", of(5, "y"))
	if Deep(n) != 3 || Count(n) != wide+2 {
		t.Errorf("Deep %d, Count %d", Deep(n), Count(n))
	}
	for i, path := range Paths(n)[1 : wide+1] {
		if !slices.Equal(path, []int{i}) {
			t.Fatalf("path %d is %v", i+1, path)
		}
	}
	if x, ok := At(n, []int{wide - 1, 0}); !ok || x.Text != "y" {
		t.Errorf("At = %v, %t", x, ok)
	}
	laid, ok := With(n, []int{wide - 1}, of(5, "x"))
	if !ok || Count(laid) != wide+1 || !Same(Copy(laid), laid) {
		t.Errorf("With = %t, Count %d", ok, Count(laid))
	}
	if want := `(9 ""` + strings.Repeat(`(5 "x")`, wide) + ")"; Show(laid) != want {
		t.Error("Show")
	}
}

func TestLongTexts(t *testing.T) {
	long := strings.Repeat("a\"\xff", 1<<20)
	n := of(8, long, of(8, long+"b"))
	if Show(n) != showByWords(n) || !Same(Copy(n), n) || Same(n.Kids[0], of(8, long)) {
		t.Error("long texts are told otherwise")
	}
}

func TestManyCallsAtOnce(t *testing.T) {
	l := some()
	var all sync.WaitGroup
	for range 8 {
		all.Go(func() {
			for _, n := range l {
				if Show(n) != showByWords(n) || !samePaths(Paths(n), pathsByWords(n)) || !Same(Copy(n), n) {
					t.Errorf("%v is told otherwise", n)
				}
			}
		})
	}
	all.Wait()
}

func TestItStandsOnApiAlone(t *testing.T) {
	files, err := os.ReadDir(".")
	if err != nil {
		t.Fatal(err)
	}
	for _, file := range files {
		if strings.HasSuffix(file.Name(), "_test.go") {
			continue
		}
		f, err := parser.ParseFile(token.NewFileSet(), file.Name(), nil, parser.ImportsOnly)
		if err != nil {
			t.Fatal(err)
		}
		for _, i := range f.Imports {
			if own := strings.HasPrefix(i.Path.Value, `"subeditor`); own && i.Path.Value != `"subeditor/api"` {
				t.Errorf("%s imports %s", file.Name(), i.Path.Value)
			}
		}
	}
}
