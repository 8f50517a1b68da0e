package wrap

import (
	"math"
	"slices"
	"testing"

	"subeditor/api"
	"subeditor/bare"
	"subeditor/node"
	"subeditor/parse"
	"subeditor/prec"
)

var (
	one = of(api.Number, "1")
	two = of(api.Number, "2")
	dot = of(api.Root, "")
)

// in is a node in brackets.
func in(n api.Node) api.Node {
	return of(api.Paren, "", n)
}

// spelt is a node, shown as the tests tell it.
func spelt(n api.Node) string {
	return node.Show(n)
}

// operators are those of prec, and texts that are none.
func operators() []string {
	return append(prec.Opers(), "", "not", "?//", ".", "||", " |", "OR", "\xff")
}

func TestNeedsOfABin(t *testing.T) {
	for _, op := range operators() {
		for least := -2; least <= 12; least++ {
			for _, follows := range []int{math.MinInt, -1, 0, 1, 9, math.MaxInt} {
				n := of(api.Bin, op, dot, one)
				if got, want := Needs(n, least, follows), prec.Level(op) < least; got != want {
					t.Errorf("Needs of a Bin %q with %d and %d: %t", op, least, follows, got)
				}
				if n.Kids = nil; Needs(n, least, follows) != (prec.Level(op) < least) {
					t.Errorf("Needs of a Bin %q without Kids with %d and %d", op, least, follows)
				}
			}
		}
		if !Needs(of(api.Bin, op), math.MaxInt, 0) || Needs(of(api.Bin, op), math.MinInt, 0) {
			t.Errorf("Needs of a Bin %q with the greatest, and the smallest", op)
		}
	}
	for op, level := range map[string]int{"|": 1, ",": 2, "//": 3, "=": 4, "//=": 4, "or": 5, "and": 6, "<=": 7, "-": 8, "%": 9} {
		if Needs(of(api.Bin, op), level, 9) || !Needs(of(api.Bin, op), level+1, 0) {
			t.Errorf("Needs of a Bin %q at its level, %d, or above it", op, level)
		}
	}
}

func TestNeedsOfOthers(t *testing.T) {
	follows := []int{math.MinInt, -1, 0, 1, 2, 7, 8, 9, 10, math.MaxInt}
	from := map[int]int{api.Neg: 9, api.As: 1, api.Label: 1, api.Def: 1}
	for kind := -3; kind <= 40; kind++ {
		if kind == api.Bin {
			continue
		}
		for _, f := range follows {
			want := false
			if f0, is := from[kind]; is {
				want = f >= f0
			}
			for _, least := range []int{math.MinInt, 0, 1, 9, 10, math.MaxInt} {
				for _, n := range []api.Node{of(kind, ""), of(kind, "-", one), of(kind, "|", one, dot, two, one)} {
					if Needs(n, least, f) != want {
						t.Errorf("Needs of the Kind %d, %q, with %d and %d is not %t", kind, n.Text, least, f, want)
					}
				}
			}
		}
	}
	for _, kind := range []int{api.Bin + 1<<32, api.Neg - 1<<32, -api.As, math.MaxInt} {
		if Needs(of(kind, "|", one, one), 9, 9) {
			t.Errorf("Needs of the Kind %d", kind)
		}
	}
}

// tree is that of a source.
func tree(t *testing.T, s string) api.Node {
	t.Helper()
	n, err, at := parse.Source(s)
	if err != api.OK {
		t.Fatalf("%s: %d at %d", s, err, at)
	}
	return n
}

// Each source, behind Wrap, is the other one; and that one stays as it is.
func TestWrapOfSources(t *testing.T) {
	for _, c := range [][2]string{
		{"(1 - 2) - (3 - 4)", "1 - 2 - (3 - 4)"},
		{"((1))", "1"},
		{"(.a)|(.b)", ".a | .b"},
		// Operators.
		{"(1 | 2) | 3", "(1 | 2) | 3"},
		{"1 | (2 | 3)", "1 | 2 | 3"},
		{"(1, 2), (3, 4)", "1, 2, (3, 4)"},
		{"(1 // 2) // (3 // 4)", "(1 // 2) // 3 // 4"},
		{"(. = 1) = (. = 2)", "(. = 1) = (. = 2)"},
		{"(.a |= (.b // 1)) // 2", ".a |= (.b // 1) // 2"},
		{"(1 or 2) or (3 or (4 and 5))", "1 or 2 or (3 or 4 and 5)"},
		{"((1 or 2) and 3)", "(1 or 2) and 3"},
		{"(1 == 2) == (3 == 4)", "(1 == 2) == (3 == 4)"},
		{"(1 < 2) != (3 + 4)", "(1 < 2) != 3 + 4"},
		{"(1 * 2) + (3 * 4)", "1 * 2 + 3 * 4"},
		{"(1 + 2) * (3 + 4)", "(1 + 2) * (3 + 4)"},
		{"(1 * 2) / (3 % 4)", "1 * 2 / (3 % 4)"},
		{"((1 + 2) - 3) + (4 - 5)", "1 + 2 - 3 + (4 - 5)"},
		{"1 | (2, (3 // (4 = (5 or (6 and (7 == (8 + (9 * 10))))))))", "1 | 2, 3 // 4 = 5 or 6 and 7 == 8 + 9 * 10"},
		{"((((((((1 * 2) + 3) == 4) and 5) or 6) = 7) // 8), 9) | 10", "1 * 2 + 3 == 4 and 5 or 6 = 7 // 8, 9 | 10"},
		// A minus takes what is as tight as a factor.
		{"-(1)", "-1"},
		{"-(1 + 2)", "-(1 + 2)"},
		{"-(1 * 2)", "-1 * 2"},
		{"(-1) * 2", "(-1) * 2"},
		{"(-1) + 2", "-1 + 2"},
		{"1 * (-2)", "1 * -2"},
		{"1 * (-2) * 3", "1 * (-2) * 3"},
		{"1 * (-2) + 3", "1 * -2 + 3"},
		{"1 - (-(-2))", "1 - --2"},
		{"(-(-1)) * 2", "(--1) * 2"},
		{"(-(. as $x | 1)) * 2", "(-. as $x | 1) * 2"},
		{"(-(. as $x | 1)) + 2", "-(. as $x | 1) + 2"},
		// What goes on up to the end.
		{"(. as $x | 1)", ". as $x | 1"},
		{"(. as $x | 1) | 2", "(. as $x | 1) | 2"},
		{". as $x | (1 | 2)", ". as $x | 1 | 2"},
		{"1 + (. as $x | 2)", "1 + . as $x | 2"},
		{"(1 + (. as $x | 2)), 3", "1 + (. as $x | 2), 3"},
		{"(1 + -(. as $x | 2)), 3", "1 + -(. as $x | 2), 3"},
		{"1 + (-(. as $x | 2))", "1 + -. as $x | 2"},
		{"(1, 2) as $x | 3", "(1, 2) as $x | 3"},
		{"(-1) as $x | 3", "(-1) as $x | 3"},
		{"(try 1) as $x | 3", "(try 1) as $x | 3"},
		{"(. as $x | .) as $y | 3", "(. as $x | .) as $y | 3"},
		{"(.[(0)]) as {a: [$b], (((1))): $c} | ((2))", ".[0] as {a: [$b], (1): $c} | 2"},
		{"(label $f | 1), (label $g | 2)", "(label $f | 1), label $g | 2"},
		{"label $f | (1, (. as $x | 2))", "label $f | 1, . as $x | 2"},
		{"(label $f | (1 | 2)) | (break $f)", "(label $f | 1 | 2) | break $f"},
		{"(def f: (1); (2)), (def f: 3 | 4; 5)", "(def f: 1; 2), def f: 3 | 4; 5"},
		{"def f($a; g): (def h: (1); (h)); (f((1); (2, 3)))", "def f($a; g): def h: 1; h; f(1; 2, 3)"},
		{"def f: (. as $x | 1);", "def f: . as $x | 1;"},
		{"(def f: 1; f).a?", "(def f: 1; f).a?"},
		// Terms, and what goes on from them.
		{"try (try (1))", "try (try 1)"},
		{"try (-1) catch (1 + 2)", "try (-1) catch (1 + 2)"},
		{"try (.a?) catch (.[])", "try .a? catch .[]"},
		{"(try 1) + (try 2 catch 3) * 4", "try 1 + try 2 catch 3 * 4"},
		{"-(try 1) * 2", "-try 1 * 2"},
		{"(1 + 2).a[(1, 2)]", "(1 + 2).a[1, 2]"},
		{"(-.a)[]", "(-.a)[]"},
		{"(-.a).[]", "(-.a).[]"},
		{"(try .a)?", "(try .a)?"},
		{"(.a)?.[(1):(2)]", ".a?.[1:2]"},
		{"(1, 2)[(3 | 4):]", "(1, 2)[3 | 4:]"},
		{"((.a) | .b)[:(def f: 1; f)]", "(.a | .b)[:def f: 1; f]"},
		{`(. as $x | .)."a\((1 | 2))"`, `(. as $x | .)."a\(1 | 2)"`},
		{`(.)."a"`, `. ."a"`},
		{`@json "a\(("b"))c" | @text`, `@json "a\("b")c" | @text`},
		{"[(1, (2))] | [] | [(. as $x | 1)]", "[1, 2] | [] | [. as $x | 1]"},
		{"if (1 | 2) then (. as $x | 3) elif (-4) then ((5)) else (6, 7) end + (8)", "if 1 | 2 then . as $x | 3 elif -4 then 5 else 6, 7 end + 8"},
		{"reduce (.[]) as [$a, {$b}] ((0 | 1); (. + ($a)))", "reduce .[] as [$a, {$b}] (0 | 1; . + $a)"},
		{"reduce (1, 2) as $a (0; 1) * 2", "reduce (1, 2) as $a (0; 1) * 2"},
		{"foreach (try 1) as $a ((1); (2); (3 | 4)) + 5", "foreach (try 1) as $a (1; 2; 3 | 4) + 5"},
		// Values behind keys.
		{"{a: (1), b: (1 + 2), c: (1, 2)}", "{a: 1, b: (1 + 2), c: (1, 2)}"},
		{"{a: (1 | (2 | 3)), b: ((1 | 2) | 3)}", "{a: 1 | 2 | 3, b: (1 | 2) | 3}"},
		{"{a: (-1), b: (-(-(1))), c: (-(1 * 2)), d: (-(1 | 2))}", "{a: -1, b: --1, c: -(1 * 2), d: -(1 | 2)}"},
		{"{a: ((-1) | (-(2)))}", "{a: -1 | -2}"},
		{"{a: (. as $x | 1), b: (try 1), c: (label $f | 2), d: (def f: 1; f)}", "{a: (. as $x | 1), b: (try 1), c: (label $f | 2), d: (def f: 1; f)}"},
		{"{a: (1 | . as $x | 2)}", "{a: 1 | (. as $x | 2)}"},
		{`{((1 | 2)): ((.a)), ("b"): 1, "c\((1, 2))": (2), $d, @text "e"}`, `{(1 | 2): .a, ("b"): 1, "c\(1, 2)": 2, $d, @text "e"}`},
		{"{a: (1).b[(2 | 3)]}", "{a: 1 .b[2 | 3]}"},
		// Modules.
		{`import "a" as b; include "c"; (b::f((1)))`, `import "a" as b; include "c"; b::f(1)`},
		{`include "c"; def f: (1);`, `include "c"; def f: 1;`},
	} {
		n, want := tree(t, c[0]), tree(t, c[1])
		if got := Wrap(n); !node.Same(got, want) {
			t.Errorf("Wrap of %s = %s, want %s, %s", c[0], spelt(got), c[1], spelt(want))
		}
		if got := Wrap(want); !node.Same(got, want) {
			t.Errorf("Wrap of %s = %s", c[1], spelt(got))
		}
		if got := Wrap(bare.Bare(n)); !node.Same(got, want) {
			t.Errorf("Wrap of %s without brackets = %s", c[0], spelt(got))
		}
	}
}

// Trees that no source has: their Kids are told by their places.
func TestWrapOfOddTrees(t *testing.T) {
	pipe, neg, as := of(api.Bin, "|", one, two), of(api.Neg, "", one), of(api.As, "", one, of(api.Value, "x"), two)
	try := of(api.Try, "", one)
	for _, c := range []struct {
		name    string
		n, want api.Node
	}{
		{"nothing", api.Node{}, api.Node{}},
		{"brackets around nothing", in(in(api.Node{})), api.Node{}},
		{"a Paren without a Kid", of(api.Paren, "x"), of(api.Paren, "x")},
		{"a Paren of two", of(api.Paren, "x", in(pipe), in(as)), of(api.Paren, "x", pipe, as)},
		{"brackets with a Text", of(api.Opt, "", of(api.Paren, "x", pipe)), of(api.Opt, "", in(pipe))},
		{"an operator that is none", of(api.Bin, "not", one, two), in(of(api.Bin, "not", one, two))},
		{"an operator without a Text", of(api.Bin, "", of(api.Bin, "", one, two), of(api.Bin, "", as, as)), in(of(api.Bin, "", of(api.Bin, "", one, two), of(api.Bin, "", as, as)))},
		{"one that is none, below others", of(api.Bin, "not", pipe, of(api.Bin, "+", neg, as)), in(of(api.Bin, "not", pipe, of(api.Bin, "+", neg, as)))},
		{"a Bin of no Kids", of(api.Bin, "*"), of(api.Bin, "*")},
		{"a Bin of one Kid", of(api.Bin, "*", pipe), of(api.Bin, "*", pipe)},
		{"a Bin of three Kids", of(api.Bin, "*", pipe, neg, as), of(api.Bin, "*", pipe, neg, as)},
		{"a Bin of three Kids in another", of(api.Bin, "*", of(api.Bin, "*", as, pipe, as), of(api.Bin, "*", as, pipe, as)), of(api.Bin, "*", of(api.Bin, "*", as, pipe, as), in(of(api.Bin, "*", as, pipe, as)))},
		{"a Neg of no Kids", of(api.Bin, "*", of(api.Neg, ""), of(api.Neg, "x")), of(api.Bin, "*", in(of(api.Neg, "")), of(api.Neg, "x"))},
		{"a Neg of three Kids", of(api.Neg, "x", pipe, pipe, as), of(api.Neg, "x", in(pipe), pipe, as)},
		{"a Neg's Kids ahead of an operator", of(api.Bin, "+", of(api.Neg, "x", as, as, pipe), one), of(api.Bin, "+", of(api.Neg, "x", in(as), as, pipe), one)},
		{"a Label of no Kids", of(api.Bin, "|", of(api.Label, "x"), of(api.Label, "x")), of(api.Bin, "|", in(of(api.Label, "x")), of(api.Label, "x"))},
		{"a Label of two Kids", of(api.Label, "x", pipe, as), of(api.Label, "x", pipe, as)},
		{"an As of no Kids", of(api.As, "x"), of(api.As, "x")},
		{"an As of one Kid", of(api.As, "x", pipe), of(api.As, "x", in(pipe))},
		{"an As of two Kids", of(api.As, "x", neg, pipe), of(api.As, "x", in(neg), pipe)},
		{"an As of four Kids", of(api.As, "x", try, try, pipe, as), of(api.As, "x", in(try), try, pipe, as)},
		{"a Def of no Kids", of(api.Def, "f"), of(api.Def, "f")},
		{"a Def of one Kid", of(api.Def, "f", pipe), of(api.Def, "f", pipe)},
		{"a Def of odd Params", of(api.Def, "f", in(pipe), in(as), in(pipe), in(as)), of(api.Def, "f", pipe, as, pipe, as)},
		{"a Try of no Kids", of(api.Try, "x"), of(api.Try, "x")},
		{"a Try of four Kids", of(api.Try, "x", pipe, neg, try, as), of(api.Try, "x", in(pipe), in(neg), in(try), in(as))},
		{"a Pair of no Kids", of(api.Pair, "x"), of(api.Pair, "x")},
		{"a Pair of one Kid", of(api.Pair, "x", as), of(api.Pair, "x", as)},
		{"a Pair of four Kids", of(api.Pair, "x", pipe, as, as, try), of(api.Pair, "x", pipe, in(as), as, try)},
		{"a value: a Neg with a Text", of(api.Pair, "", one, of(api.Neg, "x", of(api.Neg, "y", pipe))), of(api.Pair, "", one, of(api.Neg, "", of(api.Neg, "", in(pipe))))},
		{"a value: a Neg of no Kids", of(api.Pair, "", one, of(api.Neg, "x")), of(api.Pair, "", one, in(of(api.Neg, "x")))},
		{"a value: a Neg of two Kids", of(api.Pair, "", one, of(api.Neg, "x", pipe, pipe)), of(api.Pair, "", one, in(of(api.Neg, "x", in(pipe), pipe)))},
		{"a value: a `|` of one Kid", of(api.Pair, "", one, of(api.Bin, "|", as)), of(api.Pair, "", one, in(of(api.Bin, "|", as)))},
		{"a value: a `|` of three Kids", of(api.Pair, "", one, of(api.Bin, "|", neg, pipe, as)), of(api.Pair, "", one, in(of(api.Bin, "|", neg, pipe, as)))},
		{"a value: other operators in a `|`", of(api.Pair, "", one, of(api.Bin, "|", of(api.Bin, "+", one, two), of(api.Bin, "+", one, two))), of(api.Pair, "", one, of(api.Bin, "|", in(of(api.Bin, "+", one, two)), in(of(api.Bin, "+", one, two))))},
		{"a value: `|` below a Neg", of(api.Pair, "", one, of(api.Bin, "|", of(api.Neg, "x", pipe), of(api.Neg, "x", as))), of(api.Pair, "", one, of(api.Bin, "|", of(api.Neg, "", in(pipe)), of(api.Neg, "", in(as))))},
		{"a value: nothing", of(api.Pair, "", one, api.Node{}), of(api.Pair, "", one, api.Node{})},
		{"a value behind no key of an Object", of(api.KeyPat, "", pipe, as, neg), of(api.KeyPat, "", pipe, as, neg)},
		{"an Index of no Kids", of(api.Index, "."), of(api.Index, ".")},
		{"an Index of four Kids", of(api.Index, ".", as, as, pipe, neg), of(api.Index, ".", in(as), as, pipe, neg)},
		{"a Dot of two Kids", of(api.Dot, "a", try, try), of(api.Dot, "a", in(try), try)},
		{"a DotText of nothing and no String", of(api.DotText, "", api.Node{}, pipe), of(api.DotText, "", api.Node{}, pipe)},
		{"a Reduce of two Kids", of(api.Reduce, "x", neg, neg), of(api.Reduce, "x", in(neg), neg)},
		{"an Each of seven Kids", of(api.Each, "x", as, as, as, as, pipe, try, neg), of(api.Each, "x", in(as), as, as, as, pipe, try, neg)},
		{"a kind that is none", of(99, "x", in(pipe), in(as), in(of(-1, "y", in(neg)))), of(99, "x", pipe, as, of(-1, "y", neg))},
		{"a kind that wraps round in fewer bits", of(api.Try+1<<32, "", in(pipe), of(api.Bin+1<<32, "*", pipe, as)), of(api.Try+1<<32, "", pipe, of(api.Bin+1<<32, "*", pipe, as))},
		{"a bracket below each level", of(api.Bin, "*", of(api.Bin, "-", of(api.Bin, ",", pipe, as), try), neg), of(api.Bin, "*", in(of(api.Bin, "-", in(of(api.Bin, ",", in(pipe), as)), try)), neg)},
	} {
		if got := Wrap(c.n); !node.Same(got, c.want) {
			t.Errorf("%s: Wrap(%s) = %s, want %s", c.name, spelt(c.n), spelt(got), spelt(c.want))
		}
	}
}

// Of each pair of operators, one on either side of the other, brackets are where the levels tell.
func TestWrapOfEachPairOfOperators(t *testing.T) {
	for _, outer := range operators() {
		for _, inner := range operators() {
			k := of(api.Bin, inner, dot, two)
			left, right := k, k
			if prec.Level(inner) < prec.Left(outer) {
				left = in(k)
			}
			if prec.Level(inner) < prec.Right(outer) {
				right = in(k)
			}
			want := of(api.Bin, outer, left, right)
			if prec.Level(outer) == 0 {
				want = in(want)
			}
			if got := Wrap(of(api.Bin, outer, k, k)); !node.Same(got, want) {
				t.Errorf("%q in %q: %s, want %s", inner, outer, spelt(got), spelt(want))
			}
		}
	}
}

// Ahead of each operator, and behind it, stands each of those that an operator behind them would be taken by.
func TestWrapAheadOfEachOperator(t *testing.T) {
	tails := map[int]api.Node{
		api.Neg:   of(api.Neg, "", one),
		api.As:    of(api.As, "", one, of(api.Value, "x"), two),
		api.Label: of(api.Label, "f", one),
		api.Def:   of(api.Def, "f", one, two),
	}
	for _, op := range prec.Opers() {
		for kind, n := range tails {
			ahead := n
			if kind != api.Neg || prec.Level(op) == 9 {
				ahead = in(n)
			}
			if got, want := Wrap(of(api.Bin, op, n, n)), of(api.Bin, op, ahead, n); !node.Same(got, want) {
				t.Errorf("the Kind %d beside %q: %s, want %s", kind, op, spelt(got), spelt(want))
			}
			within := of(api.Bin, op, of(api.Bin, "*", one, n), two)
			want := of(api.Bin, op, of(api.Bin, "*", one, ahead), two)
			if got := Wrap(within); !node.Same(got, want) {
				t.Errorf("the Kind %d at the end of what stands ahead of %q: %s, want %s", kind, op, spelt(got), spelt(want))
			}
		}
	}
}

// The language's own kinds are those that have a rule; each other one asks for nothing.
func TestWrapOfEachKind(t *testing.T) {
	loose := of(api.Bin, "|", one, of(api.As, "", one, of(api.Value, "x"), two))
	first := []int{api.As, api.Dot, api.DotText, api.Opt, api.Iter, api.Index, api.Slice, api.Reduce, api.Each, api.Neg}
	for kind := -2; kind <= 40; kind++ {
		n := of(kind, "x", loose, loose, loose)
		want := of(kind, "x", loose, loose, loose)
		switch {
		case kind == api.Bin:
			want = in(want)
		case kind == api.Try:
			want = of(kind, "x", in(loose), in(loose), in(loose))
		case kind == api.Pair:
			want.Kids[1] = of(api.Bin, "|", one, in(loose.Kids[1]))
		case slices.Contains(first, kind):
			want.Kids[0] = in(loose)
		}
		if got := Wrap(n); !node.Same(got, want) {
			t.Errorf("the Kind %d: %s, want %s", kind, spelt(got), spelt(want))
		}
	}
}

// A list that is nil and one that is empty are the same thing.
func TestNoKidsAreAnEmptyList(t *testing.T) {
	for kind := range 40 {
		n := api.Node{Kind: kind, Text: "x", Kids: []api.Node{}}
		if got, want := Wrap(n), Wrap(of(kind, "x")); !node.Same(got, want) {
			t.Errorf("the Kind %d: %s, want %s", kind, spelt(got), spelt(want))
		}
	}
}
