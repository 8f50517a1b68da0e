package bare

import (
	"math"
	"math/rand"
	"reflect"
	"slices"
	"strings"
	"testing"

	"subeditor/api"
	"subeditor/node"
	"subeditor/parse"
)

// of is a node.
func of(kind int, text string, kids ...api.Node) api.Node {
	return api.Node{Kind: kind, Text: text, Kids: kids}
}

// in is a node in so many brackets.
func in(brackets int, n api.Node) api.Node {
	for range brackets {
		n = of(api.Paren, "", n)
	}
	return n
}

// some are the trees that most tests go over.
func some() []api.Node {
	one, dot := of(api.Number, "1"), of(api.Root, "")
	return []api.Node{
		{},
		one,
		in(1, one),
		in(2, one),
		in(5, api.Node{}),
		of(api.Paren, "text", one),
		of(api.Paren, ""),
		of(api.Paren, "x", one, dot),
		of(api.Paren, "", in(1, one), in(2, dot)),
		in(1, of(api.Paren, "")),
		in(2, of(api.Paren, "", one, dot, one)),
		of(api.Paren, "", of(api.Paren, "", in(1, of(api.Paren, "")), in(1, one))),
		of(api.KeyExp, "", one),
		of(api.KeyExp, "", in(1, one)),
		of(api.Array, "", in(2, of(api.Array, "", in(1, dot)))),
		of(-api.Paren, "", one),
		of(api.Paren+1<<32, "", one),
		of(api.Bin, "-", in(1, of(api.Bin, "-", one, in(2, dot))), in(1, of(api.Bin, "-", in(1, one), dot))),
		of(api.Slice, ".", in(1, dot), api.Node{}, in(1, of(api.Neg, "", in(1, one)))),
		of(api.Def, "f", of(api.Param, "$x"), in(1, of(api.Value, "x")), in(1, api.Node{})),
		of(99, "\xff\"(", in(1, of(-7, ")")), in(1, in(1, of(0, "", in(1, one)))), one),
	}
}

// rows calls f with each list of trees that have n nodes in all: brackets, Parens, and others.
func rows(n int, f func([]api.Node)) {
	if n == 0 {
		f(nil)
	}
	for first := 1; first <= n; first++ {
		small(first, func(k api.Node) {
			rows(n-first, func(l []api.Node) { f(append([]api.Node{k}, l...)) })
		})
	}
}

// small calls f with each such tree of n nodes.
func small(n int, f func(api.Node)) {
	rows(n-1, func(kids []api.Node) {
		for _, kind := range []int{api.Paren, api.Array} {
			f(of(kind, "", slices.Clone(kids)...))
		}
	})
}

// upTo are all such trees of at most n nodes.
func upTo(n int) []api.Node {
	var out []api.Node
	for i := 1; i <= n; i++ {
		small(i, func(x api.Node) { out = append(out, x) })
	}
	return out
}

// chosen is a tree of n nodes by chance, many of them Parens.
func chosen(rng *rand.Rand, n int) api.Node {
	out := of(rng.Intn(40)-1, []string{"", "a", "or"}[rng.Intn(3)])
	if rng.Intn(2) == 0 {
		out.Kind = api.Paren
	}
	for n--; n > 0; {
		size := 1 + rng.Intn(n)
		if rng.Intn(3) == 0 {
			size = n
		}
		out.Kids = append(out.Kids, chosen(rng, size))
		n -= size
	}
	return out
}

// What the chapter's words tell.

func bracketByWords(n api.Node) bool {
	return n.Kind == 12 && len(n.Kids) == 1
}

func bareByWords(n api.Node) api.Node {
	if bracketByWords(n) {
		return bareByWords(n.Kids[0])
	}
	out := of(n.Kind, n.Text)
	for _, k := range n.Kids {
		out.Kids = append(out.Kids, bareByWords(k))
	}
	return out
}

func bracketsByWords(n api.Node) [][]int {
	var out [][]int
	for _, path := range node.Paths(n) {
		if x, _ := node.At(n, path); bracketByWords(x) {
			out = append(out, path)
		}
	}
	return out
}

func withoutByWords(n api.Node, path []int) api.Node {
	if len(path) == 0 {
		return n.Kids[0]
	}
	out := of(n.Kind, n.Text, slices.Clone(n.Kids)...)
	out.Kids[path[0]] = withoutByWords(out.Kids[path[0]], path[1:])
	return out
}

// spelt is a node, shown as the tests tell it.
func spelt(n api.Node) string {
	return node.Show(n)
}

func samePaths(a, b [][]int) bool {
	return slices.EqualFunc(a, b, slices.Equal[[]int])
}

func TestBare(t *testing.T) {
	one, two := of(api.Number, "1"), of(api.Number, "2")
	for _, c := range []struct {
		name    string
		n, want api.Node
	}{
		{"nothing", api.Node{}, api.Node{}},
		{"no bracket", one, one},
		{"one", in(1, one), one},
		{"one in another", in(2, one), one},
		{"many, one in another", in(40, one), one},
		{"a bracket of nothing", in(1, api.Node{}), api.Node{}},
		{"one with a Text", of(api.Paren, "x", one), one},
		{"a Paren without a Kid", of(api.Paren, "x"), of(api.Paren, "x")},
		{"a Paren of two Kids", of(api.Paren, "", one, two), of(api.Paren, "", one, two)},
		{"brackets in one", of(api.Paren, "x", in(1, one), in(2, two)), of(api.Paren, "x", one, two)},
		{"one in brackets", in(3, of(api.Paren, "", one, two)), of(api.Paren, "", one, two)},
		{"an empty one in brackets", in(2, of(api.Paren, "")), of(api.Paren, "")},
		{"a key in brackets", of(api.KeyExp, "", one), of(api.KeyExp, "", one)},
		{"brackets in a key", of(api.KeyExp, "", in(2, one)), of(api.KeyExp, "", one)},
		{"an array", of(api.Array, "", in(1, one)), of(api.Array, "", one)},
		{"below, beside, and above", in(1, of(api.Bin, "-", in(1, of(api.Neg, "", in(1, one))), in(2, two))), of(api.Bin, "-", of(api.Neg, "", one), two)},
		{"the last of many", of(api.Call, "f", one, one, in(1, two)), of(api.Call, "f", one, one, two)},
		{"a kind below nought", of(-api.Paren, "", one), of(-api.Paren, "", one)},
		{"a kind that wraps round in fewer bits", of(api.Paren+1<<32, "", one), of(api.Paren+1<<32, "", one)},
	} {
		if got := Bare(c.n); !node.Same(got, c.want) {
			t.Errorf("%s: Bare(%s) = %s, want %s", c.name, spelt(c.n), spelt(got), spelt(c.want))
		}
	}
}

func TestSame(t *testing.T) {
	one, two := of(api.Number, "1"), of(api.Number, "2")
	for _, c := range []struct {
		a, b api.Node
		want bool
	}{
		{api.Node{}, api.Node{}, true},
		{one, in(1, one), true},
		{in(3, one), in(1, one), true},
		{in(1, one), in(1, two), false},
		{in(1, api.Node{}), api.Node{}, true},
		{of(api.Paren, "x", one), of(api.Paren, "y", one), true},
		{of(api.Paren, "x"), of(api.Paren, "y"), false},
		{of(api.Paren, ""), api.Node{}, false},
		{of(api.Paren, "", one, two), of(api.Paren, "", in(1, one), in(1, two)), true},
		{of(api.Paren, "", one, two), one, false},
		{of(api.Paren, "", one, two), of(api.Paren, "", two, one), false},
		{of(api.KeyExp, "", one), of(api.Paren, "", one), false},
		{of(api.Array, "", one), one, false},
		{of(api.Bin, "-", of(api.Bin, "-", one, two), one), of(api.Bin, "-", in(1, of(api.Bin, "-", one, in(1, two))), one), true},
		{of(api.Bin, "-", of(api.Bin, "-", one, two), one), of(api.Bin, "-", one, in(1, of(api.Bin, "-", two, one))), false},
		{of(api.Call, "f", one), of(api.Call, "f", one, in(1, one)), false},
		{of(api.Call, "f", in(1, one)), of(api.Call, "g", one), false},
	} {
		if Same(c.a, c.b) != c.want || Same(c.b, c.a) != c.want {
			t.Errorf("Same(%s, %s) is not %t", spelt(c.a), spelt(c.b), c.want)
		}
	}
}

func TestBrackets(t *testing.T) {
	one := of(api.Number, "1")
	for _, c := range []struct {
		n    api.Node
		want [][]int
	}{
		{api.Node{}, nil},
		{one, nil},
		{of(api.Array, "", one), nil},
		{of(api.Paren, ""), nil},
		{of(api.Paren, "", one, one), nil},
		{of(api.KeyExp, "", one), nil},
		{in(1, one), [][]int{{}}},
		{in(3, one), [][]int{{}, {0}, {0, 0}}},
		{of(api.Paren, "x", one), [][]int{{}}},
		{of(api.Paren, "", in(1, one), in(2, one)), [][]int{{0}, {1}, {1, 0}}},
		{of(api.Call, "f", one, in(1, of(api.Call, "g", in(1, one), one, in(1, one))), in(1, one)), [][]int{{1}, {1, 0, 0}, {1, 0, 2}, {2}}},
		{in(1, of(api.Bin, "-", in(1, one), of(api.Neg, "", in(1, one)))), [][]int{{}, {0, 0}, {0, 1, 0}}},
	} {
		if got := Brackets(c.n); !samePaths(got, c.want) {
			t.Errorf("Brackets(%s) = %v, want %v", spelt(c.n), got, c.want)
		}
	}
}

func TestWithout(t *testing.T) {
	one, two := of(api.Number, "1"), of(api.Number, "2")
	n := of(api.Bin, "-", in(2, of(api.Bin, "+", one, in(1, two))), of(api.Paren, "", in(1, two), one))
	for _, c := range []struct {
		path []int
		want api.Node
		ok   bool
	}{
		{[]int{0}, of(api.Bin, "-", in(1, of(api.Bin, "+", one, in(1, two))), of(api.Paren, "", in(1, two), one)), true},
		{[]int{0, 0}, of(api.Bin, "-", in(1, of(api.Bin, "+", one, in(1, two))), of(api.Paren, "", in(1, two), one)), true},
		{[]int{0, 0, 0, 1}, of(api.Bin, "-", in(2, of(api.Bin, "+", one, two)), of(api.Paren, "", in(1, two), one)), true},
		{[]int{1, 0}, of(api.Bin, "-", in(2, of(api.Bin, "+", one, in(1, two))), of(api.Paren, "", two, one)), true},
		{nil, api.Node{}, false},
		{[]int{1}, api.Node{}, false},
		{[]int{1, 1}, api.Node{}, false},
		{[]int{0, 0, 0}, api.Node{}, false},
		{[]int{0, 0, 0, 0}, api.Node{}, false},
		{[]int{0, 1}, api.Node{}, false},
		{[]int{2}, api.Node{}, false},
		{[]int{-1}, api.Node{}, false},
		{[]int{0, -1}, api.Node{}, false},
		{[]int{0, 0, 0, 1, 0, 0}, api.Node{}, false},
		{[]int{math.MaxInt}, api.Node{}, false},
		{[]int{math.MinInt, 0}, api.Node{}, false},
		{[]int{1 << 32}, api.Node{}, false},
	} {
		got, ok := Without(n, c.path)
		if ok != c.ok || !node.Same(got, c.want) {
			t.Errorf("Without(%v) = %s, %t, want %s, %t", c.path, spelt(got), ok, spelt(c.want), c.ok)
		}
		if !ok && !reflect.DeepEqual(got, api.Node{}) {
			t.Errorf("Without(%v) tells nothing, and %#v", c.path, got)
		}
	}
	for _, path := range [][]int{nil, {}} {
		if got, ok := Without(in(2, one), path); !ok || !node.Same(got, in(1, one)) {
			t.Errorf("Without(%#v) of a bracket = %s, %t", path, spelt(got), ok)
		}
	}
	if got, ok := Without(in(1, api.Node{}), nil); !ok || !reflect.DeepEqual(got, api.Node{}) {
		t.Errorf("Without of a bracket of nothing = %#v, %t", got, ok)
	}
}

// againstWords holds all that is told of one tree against the chapter's words.
func againstWords(t *testing.T, n api.Node) {
	t.Helper()
	got, want := Bare(n), bareByWords(n)
	if !node.Same(got, want) {
		t.Fatalf("Bare(%s) = %s, want %s", spelt(n), spelt(got), spelt(want))
	}
	if again := Bare(got); !node.Same(again, got) || len(Brackets(got)) > 0 {
		t.Fatalf("Bare of what is bare, %s, is %s", spelt(got), spelt(again))
	}
	if !Same(n, got) || !Same(got, n) || !Same(n, n) {
		t.Fatalf("%s is not the same as without brackets", spelt(n))
	}
	brackets := bracketsByWords(n)
	if got := Brackets(n); !samePaths(got, brackets) {
		t.Fatalf("Brackets(%s) = %v, want %v", spelt(n), got, brackets)
	}
	for _, path := range node.Paths(n) {
		got, ok := Without(n, path)
		is := slices.ContainsFunc(brackets, func(b []int) bool { return slices.Equal(b, path) })
		switch {
		case ok != is:
			t.Fatalf("Without(%s, %v) = %t", spelt(n), path, ok)
		case !ok && !reflect.DeepEqual(got, api.Node{}):
			t.Fatalf("Without(%s, %v) tells nothing, and %#v", spelt(n), path, got)
		case ok && !node.Same(got, withoutByWords(n, path)):
			t.Fatalf("Without(%s, %v) = %s", spelt(n), path, spelt(got))
		case ok && (len(Brackets(got)) != len(brackets)-1 || !Same(got, n)):
			t.Fatalf("Without(%s, %v) = %s: not one bracket less", spelt(n), path, spelt(got))
		}
		x, _ := node.At(n, path)
		for _, place := range []int{-1, len(x.Kids), math.MaxInt} {
			if got, ok := Without(n, append(slices.Clone(path), place)); ok || !reflect.DeepEqual(got, api.Node{}) {
				t.Fatalf("Without(%s, %v, and %d) = %#v, %t", spelt(n), path, place, got, ok)
			}
		}
	}
}

func TestAgainstTheChaptersWords(t *testing.T) {
	for _, n := range append(some(), upTo(6)...) {
		againstWords(t, n)
	}
	rng := rand.New(rand.NewSource(9))
	for range 3000 {
		againstWords(t, chosen(rng, 1+rng.Intn(30)))
	}
}

func TestSameOfEachPair(t *testing.T) {
	l := append(some(), upTo(4)...)
	for _, a := range l {
		for _, b := range l {
			if got, want := Same(a, b), reflect.DeepEqual(bareByWords(a), bareByWords(b)); got != want {
				t.Fatalf("Same(%s, %s) = %t", spelt(a), spelt(b), got)
			}
		}
	}
}

// Without all brackets, one after the other, by whichever is taken first, a tree is bare.
func TestBracketByBracket(t *testing.T) {
	rng := rand.New(rand.NewSource(10))
	for _, n := range some() {
		want := Bare(n)
		for left := Brackets(n); len(left) > 0; left = Brackets(n) {
			n, _ = Without(n, left[rng.Intn(len(left))])
		}
		if !node.Same(n, want) {
			t.Errorf("one by one: %s, want %s", spelt(n), spelt(want))
		}
	}
}

// A list that is nil and one that is empty are the same thing.
func TestNoKidsAreAnEmptyList(t *testing.T) {
	empty := api.Node{Kind: api.Paren, Kids: []api.Node{}}
	if got := Bare(empty); !node.Same(got, of(api.Paren, "")) {
		t.Errorf("Bare = %s", spelt(got))
	}
	if !Same(empty, of(api.Paren, "")) || len(Brackets(empty)) > 0 {
		t.Error("a Paren with an empty list of Kids is told otherwise than one without")
	}
	if got, ok := Without(empty, nil); ok {
		t.Errorf("Without = %s", spelt(got))
	}
}

func TestOfSources(t *testing.T) {
	for _, c := range []struct {
		source, bare string
		brackets     [][]int
	}{
		{"((1))", "1", [][]int{{}, {0}}},
		{"(.a) | (.b)", ".a | .b", [][]int{{0}, {1}}},
		{`"\((1))" + ({(("a")): (1)})`, `"\(1)" + {("a"): 1}`, [][]int{{0, 0}, {1}, {1, 0, 0, 0, 0}, {1, 0, 0, 1}}},
		{"f((1); 2)[(3)]?", "f(1; 2)[3]?", [][]int{{0, 0, 0}, {0, 1}}},
		{"def f(g): (g); (f((1)))", "def f(g): g; f(1)", [][]int{{1}, {2}, {2, 0, 0}}},
		{"(reduce (.[]) as [$a, {b: $c}] ((0); (. + $a)))", "reduce .[] as [$a, {b: $c}] (0; . + $a)", [][]int{{}, {0, 0}, {0, 2}, {0, 3}}},
	} {
		n, _, _ := parse.Source(c.source)
		want, err, at := parse.Source(c.bare)
		if err != api.OK {
			t.Fatalf("%s: %d at %d", c.bare, err, at)
		}
		if got := Bare(n); !node.Same(got, want) || !Same(n, want) {
			t.Errorf("Bare of %s = %s, want %s", c.source, spelt(got), spelt(want))
		}
		if got := Brackets(n); !samePaths(got, c.brackets) {
			t.Errorf("Brackets of %s = %v, want %v", c.source, got, c.brackets)
		}
	}
}

// What is sought may be left at each path; what is told till then is the same.
func TestASearchMayBeLeft(t *testing.T) {
	for _, n := range some() {
		all := bracketsByWords(n)
		for left := range len(all) {
			var got [][]int
			for path := range sought(n, isBracket) {
				got = append(got, slices.Clone(path))
				if len(got) == left+1 {
					break
				}
			}
			if !samePaths(got, all[:left+1]) {
				t.Errorf("%s: left behind %d: %v", spelt(n), left+1, got)
			}
		}
	}
}

func TestDeepTrees(t *testing.T) {
	const levels = 1 << 16
	one := of(api.Number, "1")
	brackets, others := in(levels-1, one), one
	for range levels - 1 {
		others = of(api.Neg, "", others)
	}
	if got := Bare(brackets); !node.Same(got, one) {
		t.Error("brackets")
	}
	if got := Bare(others); !node.Same(got, others) || len(Brackets(others)) > 0 {
		t.Error("others")
	}
	if !Same(brackets, in(1, one)) || Same(brackets, others) {
		t.Error("Same")
	}
	if got, ok := Without(brackets, make([]int, levels-2)); !ok || !node.Same(got, brackets.Kids[0]) {
		t.Errorf("Without = %t", ok)
	}
	if _, ok := Without(brackets, make([]int, levels-1)); ok {
		t.Error("Without what is no bracket")
	}
	const fewer = 3000
	for i, path := range Brackets(in(fewer, one)) {
		if len(path) != i {
			t.Fatalf("path %d has %d places", i, len(path))
		}
	}
}

func TestWideTrees(t *testing.T) {
	const wide = 1 << 17
	one := of(api.Number, strings.Repeat("1", 20))
	n := of(api.Call, "f", slices.Repeat([]api.Node{in(2, one)}, wide)...)
	want := of(api.Call, "f", slices.Repeat([]api.Node{one}, wide)...)
	if got := Bare(n); !node.Same(got, want) || !Same(n, want) {
		t.Error("Bare")
	}
	for i, path := range Brackets(n) {
		if !slices.Equal(path, []int{i / 2, 0}[:1+i%2]) {
			t.Fatalf("path %d is %v", i, path)
		}
	}
	want = of(api.Call, "f", slices.Clone(n.Kids)...)
	want.Kids[wide-1] = in(1, one)
	if got, ok := Without(n, []int{wide - 1, 0}); !ok || !node.Same(got, want) {
		t.Errorf("Without = %t", ok)
	}
}
