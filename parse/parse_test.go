package parse

import (
	goparser "go/parser"
	"go/token"
	"os"
	"reflect"
	"slices"
	"strings"
	"sync"
	"testing"
	"unsafe"

	"subeditor/api"
	"subeditor/items"
	"subeditor/lex"
	"subeditor/prec"
)

// begun are tokens that begin with brackets, and text behind them.
func begun(brackets []api.Tok, behind string) []api.Item {
	l := slices.Clone(brackets)
	for _, w := range strings.Fields(behind) {
		l = append(l, tok(api.Op, w))
	}
	return bare(l)
}

// times are as many tokens, by turns.
func times(n int, turns ...api.Tok) []api.Tok {
	var out []api.Tok
	for i := range n {
		out = append(out, turns[i%len(turns)])
	}
	return out
}

func TestDeepBrackets(t *testing.T) {
	round, square, curly, open := tok(api.Op, "("), tok(api.Op, "["), tok(api.Op, "{"), tok(api.Open, `\(`)
	end, over := tok(api.Op, ")"), tok(api.Close, ")")
	most := api.MaxDepth
	for _, c := range []struct {
		name string
		l    []api.Item
		want api.Errno
		at   int
	}{
		{"as many as may be", begun(times(most, round), ""), api.ErrForm, most},
		{"one more", begun(times(most+1, round), ""), api.ErrDeep, most},
		{"many more", begun(times(3*most, round), ""), api.ErrDeep, most},
		{"square ones", begun(times(most+1, square), ""), api.ErrDeep, most},
		{"curly ones", begun(times(most+1, curly), ""), api.ErrDeep, most},
		{"those in strings", begun(times(most+1, open), ""), api.ErrDeep, most},
		{"of each kind", begun(times(most+1, round, square, curly, open), ""), api.ErrDeep, most},
		{"ended ones, one behind the other", begun(times(4*most, round, end), ""), api.ErrForm, 1},
		{"ended by the other kind of bracket", begun(times(4*most, square, over, open, end, curly, tok(api.Op, "]"), round, tok(api.Op, "}")), ""), api.ErrForm, 1},
		{"one ended, and one more", begun(times(most, round), ") ( ("), api.ErrDeep, most + 2},
		{"one ended, and as many as may be", begun(times(most, round), ") ("), api.ErrForm, most},
		{"ends of none first", begun(times(5, end), strings.Repeat("( ", most)), api.ErrForm, 0},
		{"ends of none first, and too many", begun(times(5, end, over), strings.Repeat("( ", most+1)), api.ErrDeep, most + 5},
		{"what is wrong ahead of it", begun(nil, "; ] "+strings.Repeat("[ ", most+1)), api.ErrDeep, most + 2},
		{"words that look so", bare(times(most+1, tok(api.Word, "("))), api.ErrForm, 1},
		{"pieces that look so", bare(times(most+1, tok(api.Piece, "["))), api.ErrForm, 0},
		{"other operators", bare(times(most+1, tok(api.Op, "-"))), api.ErrForm, most + 1},
		{"an Open with another text", bare(times(most+1, tok(api.Open, "x"))), api.ErrDeep, most},
		{"a Close with another text", bare(times(2*most+2, round, tok(api.Close, ""))), api.ErrForm, 1},
	} {
		n, err, at := Program(c.l)
		if err != c.want || at != c.at || n.Kids != nil || n.Kind != 0 {
			t.Errorf("%s: %d at %d, want %d at %d", c.name, err, at, c.want, c.at)
		}
	}
}

// Each bracket begins one more, whatever it looks like, and each end ends one.
func TestEachBracketCounts(t *testing.T) {
	begins := []api.Tok{tok(api.Op, "("), tok(api.Op, "["), tok(api.Op, "{"), tok(api.Open, `\(`)}
	ends := []api.Tok{tok(api.Op, ")"), tok(api.Op, "]"), tok(api.Op, "}"), tok(api.Close, ")")}
	for _, b := range begins {
		for _, e := range ends {
			l := append(times(api.MaxDepth, begins...), e, b)
			if _, err, _ := Program(bare(l)); err != api.ErrForm {
				t.Errorf("%v ends one, %v begins one: %d", e, b, err)
			}
			if _, err, at := Program(bare(append(l, b))); err != api.ErrDeep || at != api.MaxDepth+2 {
				t.Errorf("%v ends one, %v begins two: %d at %d", e, b, err, at)
			}
		}
	}
}

func TestDeepSources(t *testing.T) {
	most := api.MaxDepth
	nested := func(open, within, end string, n int) string {
		return strings.Repeat(open, n) + within + strings.Repeat(end, n)
	}
	for _, c := range []struct{ open, within, end string }{
		{"(", "1", ")"},
		{"[", "", "]"},
		{"{a:", "1", "}"},
		{".[", "1", "]"},
		{"f(", "1", ")"},
		{"{(", "1", "):2}"},
	} {
		each := strings.Count(c.open, "(") + strings.Count(c.open, "[") + strings.Count(c.open, "{")
		if _, err, at := Source(nested(c.open, c.within, c.end, most/each)); err != api.OK {
			t.Errorf("%q as often as may be: %d at %d", c.open, err, at)
		}
		s := nested(c.open, c.within, c.end, most/each+1)
		bracket := most / each * len(c.open)
		if each == 1 {
			bracket += strings.IndexAny(c.open, "([{")
		}
		checkBad(t, []bad{{s, api.ErrDeep, bracket}, {") " + s, api.ErrDeep, bracket + 2}, {s + " )", api.ErrDeep, bracket}})
	}
	strung := `"` + nested(`\("`, "1", `")`, most-1) + `"`
	if _, err, at := Source(strung); err != api.OK {
		t.Errorf("strings: %d at %d", err, at)
	}
	checkBad(t, []bad{
		{"(" + strung + "[", api.ErrForm, len(strung) + 2},
		{"([" + strung, api.ErrDeep, 3*most - 3},
		{"# (\n" + strings.Repeat(`"(" | `, most) + nested("(", "", "", most+1), api.ErrDeep, 4 + 6*most + most},
	})
}

// Items are told by their tokens alone, and a token by its kind, and its text where the table has one.
func TestItemsThatNoSourceHas(t *testing.T) {
	one := tok(api.Num, "1")
	for _, c := range []struct {
		name string
		l    []api.Tok
		want string
	}{
		{"texts that no token of the kind has", []api.Tok{tok(api.Num, "x y")}, "Number|x y"},
		{"a Field without its dot", []api.Tok{tok(api.Field, "a")}, "Name|a"},
		{"a Field of a dot", []api.Tok{tok(api.Field, ".")}, "Name"},
		{"a Field with two dots", []api.Tok{one, tok(api.Field, "..a")}, "Dot|.a(Number|1)"},
		{"an empty Field", []api.Tok{one, tok(api.Field, "")}, "Dot(Number|1)"},
		{"a Var without its mark", []api.Tok{tok(api.Var, "a")}, "Value|a"},
		{"a Var of its mark", []api.Tok{tok(api.Var, "$")}, "Value"},
		{"a Var with two marks", []api.Tok{tok(api.Var, "$$a")}, "Value|$a"},
		{"an empty Var", []api.Tok{tok(api.Word, "break"), tok(api.Var, "")}, "Break"},
		{"an empty Word", []api.Tok{tok(api.Word, "")}, "Call"},
		{"a Word that is an operator", []api.Tok{one, tok(api.Word, "+"), one}, "Bin|+(Number|1 Number|1)"},
		{"a Word that is an operator, as a term", []api.Tok{tok(api.Word, "-"), tok(api.Word, "|"), tok(api.Word, ".")}, "Bin||(Call|- Call|.)"},
		{"an Op that is an operator's word", []api.Tok{one, tok(api.Op, "or"), one}, "Bin|or(Number|1 Number|1)"},
		{"a Quote, and an End, with other texts", []api.Tok{tok(api.Quote, "x"), tok(api.End, "y")}, "String"},
		{"two Pieces", []api.Tok{tok(api.Quote, `"`), tok(api.Piece, "a"), tok(api.Piece, ""), tok(api.End, `"`)}, "String(Chunk|a Chunk)"},
		{"two Pieces of what is brought", []api.Tok{tok(api.Word, "include"), tok(api.Quote, `"`), tok(api.Piece, "a"), tok(api.Piece, "b"), tok(api.End, `"`), tok(api.Op, ";")}, "Module(Bring|include(String(Chunk|a Chunk|b)) None)"},
		{"an Open, and a Close, with other texts", []api.Tok{tok(api.Quote, ""), tok(api.Open, ""), one, tok(api.Close, ""), tok(api.End, "")}, "String(Number|1)"},
		{"an empty Format", []api.Tok{tok(api.Format, ""), tok(api.Quote, ""), tok(api.End, "")}, "String"},
		{"a key that is an empty Word", []api.Tok{tok(api.Op, "{"), tok(api.Word, ""), tok(api.Op, "}")}, "Object(Pair(Ident))"},
		{"no UTF-8", []api.Tok{tok(api.Word, "\xff"), tok(api.Op, "|"), tok(api.Num, "\xfe")}, "Bin||(Call|\xff Number|\xfe)"},
	} {
		n, err, at := Program(bare(c.l))
		if err != api.OK || at != 0 || show(n) != c.want {
			t.Errorf("%s: %s, %d at %d, want %s", c.name, show(n), err, at, c.want)
		}
	}
}

func TestItemsThatAreNoProgram(t *testing.T) {
	one := tok(api.Num, "1")
	for _, c := range []struct {
		name string
		l    []api.Tok
		at   int
	}{
		{"no kind", []api.Tok{{}}, 0},
		{"no kind behind a program", []api.Tok{one, {}}, 1},
		{"no kind within", []api.Tok{tok(api.Op, "("), one, {}, tok(api.Op, ")")}, 2},
		{"kinds that are none", []api.Tok{tok(14, "1")}, 0},
		{"a kind below nought", []api.Tok{tok(-1, "1")}, 0},
		{"kinds that wrap round in fewer bits", []api.Tok{tok(api.Num+1<<32, "1")}, 0},
		{"a Space", []api.Tok{one, tok(api.Space, " ")}, 1},
		{"a Note", []api.Tok{tok(api.Note, "# a"), one}, 0},
		{"an empty Op", []api.Tok{one, tok(api.Op, "")}, 1},
		{"an Op that is a word", []api.Tok{tok(api.Op, "if"), one}, 0},
		{"an Op that is a name", []api.Tok{tok(api.Op, "f")}, 0},
		{"a Word that is a sign", []api.Tok{tok(api.Word, "["), tok(api.Word, "]")}, 1},
		{"a Word that ends nothing", []api.Tok{tok(api.Op, "("), one, tok(api.Word, ")")}, 2},
		{"a Word that is no bar", []api.Tok{one, tok(api.Word, "as"), tok(api.Var, "$a"), tok(api.Word, "|"), one}, 3},
		{"a Word that is no minus", []api.Tok{tok(api.Word, "-"), one}, 1},
		{"a Word that is a bar in a pair", []api.Tok{tok(api.Op, "{"), tok(api.Word, "a"), tok(api.Op, ":"), one, tok(api.Word, "|"), one, tok(api.Op, "}")}, 4},
		{"a Close that is no Op", []api.Tok{tok(api.Op, "("), one, tok(api.Close, ")")}, 2},
		{"an Op that is no Close", []api.Tok{tok(api.Quote, `"`), tok(api.Open, `\(`), one, tok(api.Op, ")")}, 3},
		{"an End that is a Quote", []api.Tok{tok(api.Quote, `"`), tok(api.Quote, `"`)}, 1},
		{"a Piece alone", []api.Tok{tok(api.Piece, "a")}, 0},
		{"an Open alone", []api.Tok{tok(api.Open, `\(`)}, 0},
		{"an End alone", []api.Tok{tok(api.End, `"`)}, 0},
		{"a bare string", []api.Tok{tok(api.Quote, `"`), tok(api.Num, "1"), tok(api.End, `"`)}, 1},
		{"a name that is empty", []api.Tok{tok(api.Word, "def"), tok(api.Word, "")}, 1},
		{"a name that is no Word", []api.Tok{tok(api.Word, "def"), tok(api.Op, "f")}, 1},
		{"a name that is a Field", []api.Tok{tok(api.Word, "def"), tok(api.Field, "f")}, 1},
		{"a parameter that is no Word", []api.Tok{tok(api.Word, "def"), tok(api.Word, "f"), tok(api.Op, "("), tok(api.Num, "g")}, 3},
		{"no UTF-8 as a name", []api.Tok{tok(api.Word, "def"), tok(api.Word, "f\xff")}, 1},
	} {
		n, err, at := Program(bare(c.l))
		if err != api.ErrForm || at != c.at || n.Kind != 0 || n.Kids != nil {
			t.Errorf("%s: %s, %d at %d, want %d", c.name, show(n), err, at, c.at)
		}
	}
}

// Where items stand, and what notes they have, is nothing to a tree; a place in items is one in the list.
func TestPlacesAndNotesDoNotCount(t *testing.T) {
	l := bare(tokens(t, `. as [$a] | "b\(1)"`))
	for i := range l {
		l[i].At = -7 * i
		l[i].Notes = []string{"no note", ")", ""}
	}
	n, err, at := Program(l)
	if err != api.OK || at != 0 || show(n) != "As(Root List(Value|a) String(Chunk|b Number|1))" {
		t.Errorf("%s, %d at %d", show(n), err, at)
	}
	if _, err, at = Program(l[:len(l)-1]); err != api.ErrForm || at != len(l)-1 {
		t.Errorf("without its end: %d at %d", err, at)
	}
	if _, err, at = Program(append(l, l[3])); err != api.ErrForm || at != len(l) {
		t.Errorf("with one more: %d at %d", err, at)
	}
}

// What lies behind a list's length is not read.
func TestItemsBehindTheList(t *testing.T) {
	all := bare(tokens(t, "1 + 2"))
	if n, err, _ := Program(all[:1]); err != api.OK || show(n) != "Number|1" {
		t.Errorf("the first of three: %s, %d", show(n), err)
	}
	if _, err, at := Program(all[:2]); err != api.ErrForm || at != 2 {
		t.Errorf("two of three: %d at %d", err, at)
	}
}

func TestSourceIsProgramOfItsItems(t *testing.T) {
	for _, s := range append(slices.Clone(programs), "", " # a", "1 2", "\n(1\n# a\n", `"\(1`, "[[", "1 == 2 # a\n == 3", "{a: 1 + 2}") {
		toks, err, at := lex.Tokens(s)
		var want api.Node
		if err == api.OK {
			_, l := items.Items(toks)
			want, err, at = Program(l)
			switch {
			case err != api.OK && at < len(l):
				at = l[at].At
			case err != api.OK:
				at = len(s)
			}
		}
		n, gotErr, gotAt := Source(s)
		if gotErr != err || gotAt != at || !reflect.DeepEqual(n, want) {
			t.Errorf("Source(%q) = %s, %d at %d, want %s, %d at %d", s, show(n), gotErr, gotAt, show(want), err, at)
		}
	}
}

// A source with any blanks, and notes, between its tokens has the same tree.
func TestBlanksAndNotesDoNotCount(t *testing.T) {
	for _, s := range programs {
		want, err, at := Source(s)
		if err != api.OK {
			t.Fatalf("%q: %d at %d", s, err, at)
		}
		toks, _, _ := lex.Tokens(s)
		spread := "# first\n"
		inside := false
		for _, k := range toks {
			if k.Kind == api.Quote || k.Kind == api.Close {
				inside = true
			}
			if k.Kind == api.Open || k.Kind == api.End {
				inside = false
			}
			spread += k.Text
			if !inside {
				spread += " # ) note\n\t"
			}
		}
		for _, other := range []string{spread, items.Line(toks)} {
			if n, err, at := Source(other); err != api.OK || show(n) != show(want) {
				t.Errorf("%q: %s, %d at %d, want %s", other, show(n), err, at, show(want))
			}
		}
	}
}

// An operator's place in the tree hangs on its level and side alone: any row of operators is told by the table of layer 6.
func TestRowsOfThreeOperators(t *testing.T) {
	l := prec.Opers()
	for _, a := range l {
		for _, b := range l {
			for _, c := range l {
				row := []api.Tok{tok(api.Num, "1")}
				for _, o := range []string{a, b, c} {
					kind := api.Op
					if o == "or" || o == "and" {
						kind = api.Word
					}
					row = append(row, tok(kind, o), tok(api.Num, "1"))
				}
				n, err, at := Program(bare(row))
				bad := firstBad([]string{a, b, c})
				switch {
				case bad >= 0 && (err != api.ErrForm || at != 2*bad+1):
					t.Fatalf("%q: %d at %d, want ErrForm at %d", spelt(row), err, at, 2*bad+1)
				case bad < 0 && err != api.OK:
					t.Fatalf("%q: %d at %d", spelt(row), err, at)
				case bad < 0:
					holds(t, row, n)
				}
			}
		}
	}
}

// firstBad is the first operator that no program has there: one without a side, of a level of which there was another, with none but tighter ones between.
func firstBad(l []string) int {
	for i, y := range l {
		for j := i - 1; j >= 0 && prec.Level(l[j]) >= prec.Level(y); j-- {
			if prec.Level(l[j]) == prec.Level(y) && prec.Side(y) == 0 {
				return i
			}
		}
	}
	return -1
}

// shares says whether two texts have a byte of memory in common.
func shares(a, b string) bool {
	if a == "" || b == "" {
		return false
	}
	i, j := uintptr(unsafe.Pointer(unsafe.StringData(a))), uintptr(unsafe.Pointer(unsafe.StringData(b)))
	return i < j+uintptr(len(b)) && j < i+uintptr(len(a))
}

// nodes are n, and all in its Kids.
func nodes(n api.Node) []api.Node {
	out := []api.Node{n}
	for _, k := range n.Kids {
		out = append(out, nodes(k)...)
	}
	return out
}

func TestAnswersAreNewMemory(t *testing.T) {
	for _, s := range programs {
		s = strings.Clone(s)
		l := bare(tokens(t, s))
		was := bare(tokens(t, s))
		n, _, _ := Program(l)
		again, _, _ := Program(l)
		fromSource, _, _ := Source(s)
		if !reflect.DeepEqual(l, was) {
			t.Errorf("%q: items are changed", s)
		}
		a, b, c := nodes(n), nodes(again), nodes(fromSource)
		for i, x := range a {
			for _, y := range l {
				if shares(x.Text, y.Tok.Text) {
					t.Errorf("%q: %q is the item's memory", s, x.Text)
				}
			}
			if shares(x.Text, b[i].Text) || shares(c[i].Text, s) {
				t.Errorf("%q: %q is no new memory", s, x.Text)
			}
		}
		want := show(n)
		scribble(&again)
		if show(n) != want {
			t.Errorf("%q: two answers share memory", s)
		}
	}
}

// scribble changes all lists of a tree, as far as their memory goes.
func scribble(n *api.Node) {
	for i := range n.Kids {
		scribble(&n.Kids[i])
	}
	all := n.Kids[:cap(n.Kids)]
	for i := range all {
		all[i] = of(-1, "x")
	}
}

// No two lists of one tree share memory: what is laid behind one is seen in no other.
func TestListsOfOneTreeShareNothing(t *testing.T) {
	for _, s := range programs {
		n, _, _ := Source(s)
		all := nodes(n)
		for i := range all {
			want := make([]string, len(all))
			for j, x := range all {
				want[j] = show(x)
			}
			_ = append(all[i].Kids, of(-1, "x"))
			for j, x := range all {
				if show(x) != want[j] {
					t.Fatalf("%q: behind the Kids of %s lies a piece of %s", s, show(all[i]), want[j])
				}
			}
		}
	}
}

func TestManyCallsAtOnce(t *testing.T) {
	var all sync.WaitGroup
	for range 8 {
		all.Go(func() {
			for range 20 {
				for _, s := range programs {
					n, err, _ := Source(s)
					if err != api.OK || !stands(n) {
						t.Errorf("%q: %s, %d", s, show(n), err)
					}
				}
				if _, err, at := Source("(1 2)"); err != api.ErrForm || at != 3 {
					t.Errorf("%d at %d", err, at)
				}
			}
		})
	}
	all.Wait()
}

func TestWhatItStandsOn(t *testing.T) {
	may := []string{"subeditor/api", "subeditor/sign", "subeditor/lex", "subeditor/items", "subeditor/prec", "strings"}
	files, err := os.ReadDir(".")
	if err != nil {
		t.Fatal(err)
	}
	for _, file := range files {
		if strings.HasSuffix(file.Name(), "_test.go") {
			continue
		}
		f, err := goparser.ParseFile(token.NewFileSet(), file.Name(), nil, goparser.ImportsOnly)
		if err != nil {
			t.Fatal(err)
		}
		for _, i := range f.Imports {
			if !slices.Contains(may, strings.Trim(i.Path.Value, `"`)) {
				t.Errorf("%s imports %s", file.Name(), i.Path.Value)
			}
		}
	}
}
