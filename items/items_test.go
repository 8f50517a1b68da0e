package items

import (
	"go/parser"
	"go/token"
	"math/rand"
	"os"
	"reflect"
	"slices"
	"strconv"
	"strings"
	"testing"
	"unsafe"

	"subeditor/api"
	"subeditor/lex"
)

// kinds are all kinds of tokens, from 1 on.
var kinds = []string{"none", "Space", "Note", "Word", "Field", "Var", "Num", "Quote", "Piece", "Open", "Close", "End", "Format", "Op"}

func tok(kind int, text string) api.Tok {
	return api.Tok{Kind: kind, Text: text}
}

// tokens are those of a source that has some.
func tokens(t *testing.T, s string) []api.Tok {
	t.Helper()
	l, err, at := lex.Tokens(s)
	if err != api.OK {
		t.Fatalf("Tokens(%q): %d at %d", s, err, at)
	}
	return l
}

// told are items as texts: the place, the kind, the text, and each note behind a bar.
func told(l []api.Item) []string {
	var out []string
	for _, i := range l {
		kind := "?"
		if i.Tok.Kind >= 0 && i.Tok.Kind < len(kinds) {
			kind = kinds[i.Tok.Kind]
		}
		row := []string{strconv.Itoa(i.At) + " " + kind + " " + i.Tok.Text}
		out = append(out, strings.Join(append(row, i.Notes...), "|"))
	}
	return out
}

func TestItems(t *testing.T) {
	for _, c := range []struct {
		s    string
		lead []string
		want []string
	}{
		{"", nil, nil},
		{" \n", nil, nil},
		{"# a", []string{"# a"}, nil},
		{" # a\n #b\n\n#\n ", []string{"# a", "#b", "#"}, nil},
		{"1", nil, []string{"0 Num 1"}},
		{"  1 ", nil, []string{"2 Num 1"}},
		{"1# a", nil, []string{"0 Num 1|# a"}},
		{"1# a\n# b\n#\n", nil, []string{"0 Num 1|# a|# b|#"}},
		{"# a\n1", []string{"# a"}, []string{"4 Num 1"}},
		{"#a\n#b\n1 #c\n#d", []string{"#a", "#b"}, []string{"6 Num 1|#c|#d"}},
		{".a #x\n| #y\n\t#z\n.b", nil, []string{"0 Field .a|#x", "6 Op ||#y|#z", "15 Field .b"}},
		{"1 + 2 # x", nil, []string{"0 Num 1", "2 Op +", "4 Num 2|# x"}},
		{"1#a\\\n b\n+", nil, []string{"0 Num 1|#a\\\n b", "8 Op +"}},
		{"#\u00e9\n1", []string{"#\u00e9"}, []string{"4 Num 1"}},
		{`"a # b"#c`, nil, []string{`0 Quote "`, "1 Piece a # b", `6 End "|#c`}},
		{"\"x \\( #a\n $b #c\n) y\"", nil, []string{
			`0 Quote "`, "1 Piece x ", `3 Open \(|#a`, "10 Var $b|#c", "16 Close )", "17 Piece  y", `19 End "`,
		}},
		{`"\()"`, nil, []string{`0 Quote "`, `1 Open \(`, "3 Close )", `4 End "`}},
		{"@json f::g .. if", nil, []string{"0 Format @json", "6 Word f::g", "11 Op ..", "14 Word if"}},
	} {
		lead, l := Items(tokens(t, c.s))
		if !slices.Equal(lead, c.lead) || !slices.Equal(told(l), c.want) {
			t.Errorf("Items of %q = %q, %q, want %q, %q", c.s, lead, told(l), c.lead, c.want)
		}
	}
}

func TestItemsOfTokensThatNoSourceHas(t *testing.T) {
	for _, c := range []struct {
		name string
		l    []api.Tok
		lead []string
		want []string
	}{
		{"none", nil, nil, nil},
		{"none, but a list", []api.Tok{}, nil, nil},
		{"no kind", []api.Tok{{}}, nil, []string{"0 none "}},
		{"kinds that are none", []api.Tok{tok(-1, "ab"), tok(14, "c"), tok(99, "d")}, nil, []string{"0 ? ab", "2 ? c", "3 ? d"}},
		{"no texts", []api.Tok{tok(2, ""), tok(1, ""), tok(3, ""), tok(2, ""), tok(2, "")}, []string{""}, []string{"0 Word ||"}},
		{"a Note by its kind alone", []api.Tok{tok(2, "a"), tok(3, "#b"), tok(2, " "), tok(13, "#")}, []string{"a"}, []string{"1 Word #b| ", "4 Op #"}},
		{"a Space by its kind alone", []api.Tok{tok(1, "abc"), tok(3, " "), tok(1, "#"), tok(13, "\n")}, nil, []string{"3 Word  ", "5 Op \n"}},
		{"no UTF-8", []api.Tok{tok(1, "\xff"), tok(13, "\xfe\xff"), tok(2, "\x80"), tok(13, "a")}, nil, []string{"1 Op \xfe\xff|\x80", "4 Op a"}},
	} {
		lead, l := Items(c.l)
		if !slices.Equal(lead, c.lead) || !slices.Equal(told(l), c.want) {
			t.Errorf("%s: Items = %q, %q, want %q, %q", c.name, lead, told(l), c.lead, c.want)
		}
	}
}

// itemsByWords is Items by the chapter's words, from the right.
func itemsByWords(l []api.Tok) ([]string, []api.Item) {
	var notes []string
	var out []api.Item
	for i, t := range slices.Backward(l) {
		switch t.Kind {
		case api.Space:
		case api.Note:
			notes = slices.Insert(notes, 0, t.Text)
		default:
			out = slices.Insert(out, 0, api.Item{Tok: t, At: len(lex.Join(l[:i])), Notes: notes})
			notes = nil
		}
	}
	return notes, out
}

// some are texts of tokens, of each kind, and of none.
func some() []api.Tok {
	l := []api.Tok{
		tok(api.Space, " "), tok(api.Space, "\n\t"), tok(api.Note, "#"), tok(api.Note, "# a"), tok(api.Note, "#\\\n"),
		tok(api.Word, "a"), tok(api.Word, "e5"), tok(api.Word, "if"), tok(api.Word, "a::b"), tok(api.Word, "_"),
		tok(api.Field, ".a"), tok(api.Field, ".e5"), tok(api.Var, "$a"), tok(api.Var, "$a::b"),
		tok(api.Num, "0"), tok(api.Num, "1."), tok(api.Num, ".5"), tok(api.Num, "1.5e+3"), tok(api.Num, "1e5"),
		tok(api.Quote, `"`), tok(api.Piece, "a"), tok(api.Piece, `\n`), tok(api.Open, `\(`), tok(api.Close, ")"), tok(api.End, `"`),
		tok(api.Format, "@json"), tok(api.Format, "@1"),
		{}, tok(0, "a"), tok(-1, "."), tok(14, "1"), tok(api.Word, ""), tok(api.Op, ""), tok(api.Num, ""),
		tok(api.Op, "a"), tok(api.Word, "."), tok(api.Op, `"`), tok(api.Op, "~"), tok(api.Op, " "), tok(api.Op, "#"), tok(api.Op, `\(`),
		tok(api.Word, ":"), tok(api.Op, "::"), tok(api.Word, "a b"), tok(api.Field, ".a.b"), tok(api.Op, "\xff"), tok(api.Op, "\xc3"),
		tok(api.Quote, "a"), tok(api.Piece, ""), tok(api.Close, "~"),
	}
	for _, o := range strings.Fields("?// //= != == <= >= |= += -= *= /= %= // .. . [ ] ( ) { } , : ; = | + - * / % < > ?") {
		l = append(l, tok(api.Op, o))
	}
	return l
}

// someRows calls f with rows of some tokens.
func someRows(seed int64, n int, f func(l []api.Tok)) {
	from := some()
	rng := rand.New(rand.NewSource(seed))
	for range n {
		l := make([]api.Tok, rng.Intn(16))
		for i := range l {
			l[i] = from[rng.Intn(len(from))]
			if rng.Intn(3) == 0 {
				l[i] = from[rng.Intn(5)]
			}
		}
		f(l)
	}
}

func TestItemsAgainstTheChaptersWords(t *testing.T) {
	someRows(5, 30000, func(l []api.Tok) {
		lead, got := Items(l)
		wantLead, want := itemsByWords(l)
		if !slices.Equal(lead, wantLead) || !slices.Equal(told(got), told(want)) {
			t.Fatalf("Items(%v) = %q, %q, want %q, %q", l, lead, told(got), wantLead, told(want))
		}
	})
}

func TestTight(t *testing.T) {
	for _, c := range []struct {
		name string
		a, b api.Tok
		want bool
	}{
		{"a Space ahead", tok(api.Space, " "), tok(api.Word, "a"), false},
		{"a Space behind", tok(api.Word, "a"), tok(api.Space, " "), false},
		{"a Note ahead", tok(api.Note, "#"), tok(api.Word, "a"), false},
		{"a Note behind", tok(api.Word, "a"), tok(api.Note, "#"), false},
		{"a Space, and a Note", tok(api.Space, " "), tok(api.Note, "#"), false},
		{"a Space ahead of a Quote", tok(api.Space, " "), tok(api.Quote, `"`), false},
		{"a Note behind an End", tok(api.End, `"`), tok(api.Note, "#"), false},
		{"a Space behind an Open", tok(api.Open, `\(`), tok(api.Space, " "), false},
		{"two Nums", tok(api.Num, "1"), tok(api.Num, "2"), false},
		{"two Nums that would be two", tok(api.Num, "1."), tok(api.Num, ".5"), false},
		{"a Num, and a Word", tok(api.Num, "1"), tok(api.Word, "b"), false},
		{"a Num, and an exponent", tok(api.Num, "1"), tok(api.Word, "e5"), false},
		{"a Word, and a Num", tok(api.Word, "a"), tok(api.Num, "1"), false},
		{"a Word, and a Num with a point ahead", tok(api.Word, "a"), tok(api.Num, ".1"), true},
		{"two colons", tok(api.Op, ":"), tok(api.Op, ":"), false},
		{"a colon ahead", tok(api.Op, ":"), tok(api.Op, ";"), true},
		{"a colon behind", tok(api.Op, ";"), tok(api.Op, ":"), true},
		{"a colon that is no Op", tok(api.Quote, ":"), tok(api.Op, ":"), true},
		{"a colon that is a Piece", tok(api.Op, ":"), tok(api.Piece, ":"), true},
		{"a Word, and a colon", tok(api.Word, "a"), tok(api.Op, ":"), true},
		{"a Num, and a Quote", tok(api.Num, "1"), tok(api.Quote, `"`), true},
		{"a Num, and a Close", tok(api.Num, "1"), tok(api.Close, ")"), true},
		{"a Word, and a Quote", tok(api.Word, "a"), tok(api.Quote, `"`), true},
		{"an End, and a Word", tok(api.End, `"`), tok(api.Word, "a"), true},
		{"a Quote, and an End", tok(api.Quote, `"`), tok(api.End, `"`), true},
		{"a Quote, and a Piece", tok(api.Quote, `"`), tok(api.Piece, "a"), true},
		{"two Pieces", tok(api.Piece, "a"), tok(api.Piece, "b"), true},
		{"a Piece, and an Open", tok(api.Piece, "a"), tok(api.Open, `\(`), true},
		{"an Open, and a Word", tok(api.Open, `\(`), tok(api.Word, "a"), true},
		{"an Open, and what is none", tok(api.Open, `\(`), tok(0, "~"), true},
		{"a Word, and a Close", tok(api.Word, "a"), tok(api.Close, ")"), true},
		{"a Close, and a Piece", tok(api.Close, ")"), tok(api.Piece, "a"), true},
		{"a Close, and a Word", tok(api.Close, ")"), tok(api.Word, "a"), true},
		{"a Format, and a Quote", tok(api.Format, "@a"), tok(api.Quote, `"`), true},
		{"two Words", tok(api.Word, "a"), tok(api.Word, "b"), false},
		{"a Word, and a Field", tok(api.Word, "a"), tok(api.Field, ".b"), true},
		{"a Word, and a Var", tok(api.Word, "a"), tok(api.Var, "$b"), true},
		{"a Word, and a Format", tok(api.Word, "a"), tok(api.Format, "@b"), true},
		{"a Word, and a bracket", tok(api.Word, "a"), tok(api.Op, "("), true},
		{"a bracket, and a Word", tok(api.Op, ")"), tok(api.Word, "a"), true},
		{"two Fields", tok(api.Field, ".a"), tok(api.Field, ".b"), true},
		{"a Field, and a Word", tok(api.Field, ".a"), tok(api.Word, "b"), false},
		{"a Field, and a Num", tok(api.Field, ".a"), tok(api.Num, "1"), false},
		{"a Num, and a Field", tok(api.Num, "1"), tok(api.Field, ".b"), false},
		{"a Num with a point, and a Field", tok(api.Num, "1.5"), tok(api.Field, ".b"), true},
		{"a Num, and a point", tok(api.Num, "1"), tok(api.Op, "."), false},
		{"a Num, and two points", tok(api.Num, "1"), tok(api.Op, ".."), false},
		{"a Num with a point, and one more", tok(api.Num, "1."), tok(api.Op, "."), true},
		{"a Num, and a minus", tok(api.Num, "1"), tok(api.Op, "-"), true},
		{"a minus, and a Num", tok(api.Op, "-"), tok(api.Num, "1"), true},
		{"a Num, and a Var", tok(api.Num, "1"), tok(api.Var, "$a"), true},
		{"a point, and a Num", tok(api.Op, "."), tok(api.Num, "1"), false},
		{"a point, and a Word", tok(api.Op, "."), tok(api.Word, "a"), false},
		{"a point, and a Quote", tok(api.Op, "."), tok(api.Quote, `"`), true},
		{"a point, and a Field", tok(api.Op, "."), tok(api.Field, ".a"), false},
		{"two points, and a Field", tok(api.Op, ".."), tok(api.Field, ".a"), true},
		{"two points, and a point", tok(api.Op, ".."), tok(api.Op, "."), true},
		{"a point, and two points", tok(api.Op, "."), tok(api.Op, ".."), false},
		{"two points, and a Num", tok(api.Op, ".."), tok(api.Num, "5"), true},
		{"a Var, and a Word", tok(api.Var, "$a"), tok(api.Word, "b"), false},
		{"two Vars", tok(api.Var, "$a"), tok(api.Var, "$b"), true},
		{"a Format, and a Word", tok(api.Format, "@a"), tok(api.Word, "b"), false},
		{"two Formats", tok(api.Format, "@a"), tok(api.Format, "@b"), true},
		{"two slashes", tok(api.Op, "/"), tok(api.Op, "/"), false},
		{"four slashes", tok(api.Op, "//"), tok(api.Op, "//"), true},
		{"three slashes", tok(api.Op, "/"), tok(api.Op, "//"), false},
		{"three slashes otherwise", tok(api.Op, "//"), tok(api.Op, "/"), true},
		{"a question, and slashes", tok(api.Op, "?"), tok(api.Op, "//"), false},
		{"a question, and a slash", tok(api.Op, "?"), tok(api.Op, "/"), true},
		{"a bar, and an equals sign", tok(api.Op, "|"), tok(api.Op, "="), false},
		{"slashes, and an equals sign", tok(api.Op, "//"), tok(api.Op, "="), false},
		{"an equals sign, and a bar", tok(api.Op, "="), tok(api.Op, "|"), true},
		{"an empty Word ahead", tok(api.Word, ""), tok(api.Word, "a"), false},
		{"an empty Op behind", tok(api.Word, "a"), tok(api.Op, ""), false},
		{"two of nothing", api.Tok{}, api.Tok{}, false},
		{"another kind ahead", tok(api.Word, "."), tok(api.Op, "["), false},
		{"another kind behind", tok(api.Op, "."), tok(api.Word, "["), false},
		{"no kind", tok(0, "a"), tok(api.Op, "["), false},
		{"what would be three", tok(api.Op, "[["), tok(api.Op, "["), false},
		{"what would be two, cut elsewhere", tok(api.Op, "[.a"), tok(api.Field, ".b"), false},
		{"a string's end that is an Op", tok(api.Op, `"`), tok(api.Op, `"`), false},
		{"an Op that begins a string", tok(api.Word, "a"), tok(api.Op, `"`), false},
		{"no sign", tok(api.Word, "a"), tok(api.Op, "~"), false},
		{"no UTF-8", tok(api.Word, "a"), tok(api.Op, "\xff"), false},
		{"a rune in two", tok(api.Op, "\xc3"), tok(api.Op, "\xa9"), false},
		{"as long as may be", tok(api.Word, strings.Repeat("a", api.MaxSource-1)), tok(api.Op, "["), true},
		{"too long", tok(api.Word, strings.Repeat("a", api.MaxSource)), tok(api.Op, "["), false},
		{"too long, and a Quote", tok(api.Word, strings.Repeat("a", api.MaxSource)), tok(api.Quote, `"`), true},
	} {
		if got := Tight(c.a, c.b); got != c.want {
			t.Errorf("%s: Tight = %t", c.name, got)
		}
	}
}

// tightByWords is Tight by the chapter's words, one by one.
func tightByWords(a, b api.Tok) bool {
	either := func(kinds ...int) bool {
		return slices.Contains(kinds, a.Kind) || slices.Contains(kinds, b.Kind)
	}
	if either(api.Space, api.Note) {
		return false
	}
	if a.Kind == api.Num && b.Kind == api.Num || a.Kind == api.Num && b.Kind == api.Word {
		return false
	}
	if a.Kind == api.Op && a.Text == ":" && b.Kind == api.Op && b.Text == ":" {
		return false
	}
	return either(api.Quote, api.Piece, api.Open, api.Close, api.End) || lex.Right([]api.Tok{a, b})
}

func TestTightAgainstTheChaptersWords(t *testing.T) {
	for _, a := range some() {
		for _, b := range some() {
			if got, want := Tight(a, b), tightByWords(a, b); got != want {
				t.Errorf("Tight(%d %q, %d %q) = %t", a.Kind, a.Text, b.Kind, b.Text, got)
			}
		}
	}
}

func TestLine(t *testing.T) {
	for _, c := range []struct{ s, want string }{
		{"", ""},
		{" # a\n", ""},
		{"1", "1"},
		{"1  + .  . a", "1+. . a"},
		{"1  + .  .a", "1+. .a"},
		{"1  +\n.a # x\n | # y", "1+.a|"},
		{"# x\n  a # y", "a"},
		{"a b", "a b"},
		{"a\n\nb", "a b"},
		{"a#x\nb", "a b"},
		{"a ( b ; c )", "a(b;c)"},
		{"1a", "1 a"},
		{"1 a 2", "1 a 2"},
		{"a::b : c", "a::b:c"},
		{"a::", "a: :"},
		{"a : : b", "a: :b"},
		{"a :: b", "a: :b"},
		{": : : :", ": : : :"},
		{". [ 0 ] . a ?", ".[0]. a?"},
		{". . .", ". . ."},
		{".. .", "..."},
		{"...", "..."},
		{"... 5", "... 5"},
		{". .. .", ". ..."},
		{". \"a  b\"", `."a  b"`},
		{"@json \"x\"", `@json"x"`},
		{"\"a # \\( 1  + 2 # y\n ) b\"  \"c\"", `"a # \(1+2) b""c"`},
		{"\" \\( \" \" ) \"", `" \(" ") "`},
		{"if . then $a else \"b\" end", `if. then$a else"b"end`},
		{"? // /", "? ///"},
		{"? / / =", "?/ / ="},
		{"- 1 - - 2", "-1--2"},
		{"def f ( $a ; g ) : . ; f", "def f($a;g):.;f"},
	} {
		l := tokens(t, c.s)
		if got := Line(l); got != c.want {
			t.Errorf("Line of %q = %q, want %q", c.s, got, c.want)
		}
	}
}

func TestLineOfTokensThatNoSourceHas(t *testing.T) {
	for _, c := range []struct {
		name string
		l    []api.Tok
		want string
	}{
		{"none", nil, ""},
		{"none, but a list", []api.Tok{}, ""},
		{"no kind", []api.Tok{{}}, ""},
		{"empty ones", []api.Tok{{}, {}, {}}, "  "},
		{"an empty one ahead", []api.Tok{tok(api.Word, ""), tok(api.Word, "a")}, " a"},
		{"an empty one behind", []api.Tok{tok(api.Word, "a"), tok(api.Word, "")}, "a "},
		{"an empty Piece", []api.Tok{tok(api.Word, "a"), tok(api.Piece, ""), tok(api.Word, "b")}, "ab"},
		{"a Space between", []api.Tok{tok(api.Op, "("), tok(api.Space, "abc"), tok(api.Op, ")")}, "()"},
		{"a Note between", []api.Tok{tok(api.Op, "("), tok(api.Note, "abc"), tok(api.Op, ")")}, "()"},
		{"by kinds alone", []api.Tok{tok(api.Word, " "), tok(api.Op, "#\n")}, "  #\n"},
		{"kinds that are none", []api.Tok{tok(99, "("), tok(99, ")")}, "( )"},
		{"the same texts of other kinds", []api.Tok{tok(api.Op, "("), tok(api.Op, "("), tok(0, "("), tok(api.Op, "(")}, "(( ( ("},
		{"the other way round", []api.Tok{tok(api.Num, "1"), tok(api.Word, "a"), tok(api.Op, "/"), tok(api.Op, "//"), tok(api.Op, "/")}, "1 a/ ///"},
		{"no UTF-8", []api.Tok{tok(api.Op, "\xff"), tok(api.Piece, "\xfe"), tok(api.Op, "\xff"), tok(api.Op, "\xff")}, "\xff\xfe\xff \xff"},
	} {
		if got := Line(c.l); got != c.want {
			t.Errorf("%s: Line = %q, want %q", c.name, got, c.want)
		}
	}
}

// lineByWords is Line by the chapter's words: each two are asked anew.
func lineByWords(l []api.Tok) string {
	_, row := itemsByWords(l)
	out := ""
	for i := range row {
		if i > 0 && !tightByWords(row[i-1].Tok, row[i].Tok) {
			out += " "
		}
		out += row[i].Tok.Text
	}
	return out
}

func TestLineAgainstTheChaptersWords(t *testing.T) {
	someRows(6, 20000, func(l []api.Tok) {
		if got, want := Line(l), lineByWords(l); got != want {
			t.Fatalf("Line(%v) = %q, want %q", l, got, want)
		}
	})
}

// keeps says whether a source's line has the same tokens.
func keeps(t *testing.T, s string) {
	t.Helper()
	l, err, _ := lex.Tokens(s)
	if err != api.OK {
		return
	}
	want := slices.DeleteFunc(slices.Clone(l), func(t api.Tok) bool { return t.Kind == api.Space || t.Kind == api.Note })
	line := Line(l)
	got, err, at := lex.Tokens(line)
	got = slices.DeleteFunc(got, func(t api.Tok) bool { return t.Kind == api.Space })
	if err != api.OK || !slices.Equal(got, want) {
		t.Fatalf("Line of %q = %q: %v, %d, %d", s, line, got, err, at)
	}
	if again := Line(tokens(t, line)); again != line {
		t.Fatalf("Line of %q = %q, and of that %q", s, line, again)
	}
}

func TestALineHasTheSameTokens(t *testing.T) {
	var rows func(s string, pieces []string, n int)
	rows = func(s string, pieces []string, n int) {
		keeps(t, s)
		for _, p := range pieces {
			if n > 0 {
				rows(s+p, pieces, n-1)
			}
		}
	}
	rows("", strings.Split("1 .e+:", ""), 5)
	rows("", strings.Split(" ?/=.|", ""), 5)
	rows("", []string{`"`, `\(`, ")", "(", " ", "#\n", "a"}, 5)
	rows("", []string{"$a", "@b", ".c", "d::e", ":", " ", "5", "."}, 4)
	pieces := []string{
		`"`, `"`, `\(`, `\(`, "(", ")", ")", "a", ".a", "$a", "@a", "1", ".", "..", "# x\n", "#\\\n", " ", " ", "\n",
		"|", "?//", "/", `\n`, "\u00e9", "a::b", "::", ":", "1e+", `"x\(`, `)"`, `"y"`, "e5", ".5", "=",
	}
	rng := rand.New(rand.NewSource(7))
	for range 40000 {
		var b strings.Builder
		for range rng.Intn(20) {
			b.WriteString(pieces[rng.Intn(len(pieces))])
		}
		keeps(t, b.String())
	}
}

func TestNotes(t *testing.T) {
	for _, c := range []struct {
		name string
		l    []api.Tok
		want []string
	}{
		{"none", nil, nil},
		{"none, but a list", []api.Tok{}, nil},
		{"no notes", tokens(t, "1 + \"# a\""), nil},
		{"all", tokens(t, "#a\n1 # b\n#\n \"\\(#c\n)\"#a"), []string{"#a", "# b", "#", "#c", "#a"}},
		{"one that goes on", tokens(t, "# a\\\nb\n#c"), []string{"# a\\\nb", "#c"}},
		{"by their kind alone", []api.Tok{tok(api.Note, ""), tok(api.Space, "#a"), tok(api.Op, "#b"), tok(api.Note, "\xff"), tok(0, "#c")}, []string{"", "\xff"}},
	} {
		if got := Notes(c.l); !slices.Equal(got, c.want) {
			t.Errorf("%s: Notes = %q, want %q", c.name, got, c.want)
		}
	}
}

// shares says whether two texts have a byte of memory in common.
func shares(a, b string) bool {
	if a == "" || b == "" {
		return false
	}
	i, j := uintptr(unsafe.Pointer(unsafe.StringData(a))), uintptr(unsafe.Pointer(unsafe.StringData(b)))
	return i < j+uintptr(len(b)) && j < i+uintptr(len(a))
}

// textsOf are all texts of what Items tells.
func textsOf(lead []string, l []api.Item) []string {
	out := slices.Clone(lead)
	for _, i := range l {
		out = append(append(out, i.Tok.Text), i.Notes...)
	}
	return out
}

func TestAnswersAreNewMemory(t *testing.T) {
	l := tokens(t, "#lead\n#more\n.field #note\n#other\n|#one\n$var#end")
	first, again := textsOf(Items(l)), textsOf(Items(l))
	for i, s := range first {
		for _, k := range l {
			if shares(s, k.Text) || shares(s, again[i]) {
				t.Errorf("Items: %q is no new memory", s)
			}
		}
	}
	notes := Notes(l)
	for i, s := range Notes(l) {
		for _, k := range l {
			if shares(s, k.Text) || shares(s, notes[i]) {
				t.Errorf("Notes: %q is no new memory", s)
			}
		}
	}
	one := []api.Tok{tok(api.Field, strings.Clone(".field"))}
	if shares(Line(one), one[0].Text) || shares(Line(l), Line(l)) {
		t.Error("Line answers memory that is not new")
	}
}

func TestListsOfOneAnswerShareNothing(t *testing.T) {
	lead, l := Items(tokens(t, "#a\n#b\n#c\n1#d\n#e\n#f\n+#g\n2 - 3#h\n"))
	want := told(l)[1:]
	_ = append(lead, "x")
	_ = append(l[0].Notes, "x", "y")
	_ = append(l[1].Notes, "x")
	if got := told(l)[1:]; !slices.Equal(got, want) {
		t.Errorf("%q, want %q", got, want)
	}
}

func TestWhatIsHandedInStays(t *testing.T) {
	l := []api.Tok{
		tok(api.Note, "#a"), tok(api.Space, "\n"), tok(api.Num, "1"), tok(api.Space, " "), tok(api.Note, "#b"), tok(api.Word, "c"),
		tok(api.Note, "#behind"), tok(api.Word, "behind"),
	}
	kept := slices.Clone(l)
	lead, got := Items(l[:6])
	if !slices.Equal(lead, []string{"#a"}) || !slices.Equal(told(got), []string{"3 Num 1|#b", "7 Word c"}) {
		t.Errorf("Items = %q, %q", lead, told(got))
	}
	if got := Line(l[:6]); got != "1 c" {
		t.Errorf("Line = %q", got)
	}
	if got := Notes(l[:6]); !slices.Equal(got, []string{"#a", "#b"}) {
		t.Errorf("Notes = %q", got)
	}
	if !slices.Equal(l, kept) {
		t.Errorf("%v", l)
	}
}

func TestLongLists(t *testing.T) {
	fill := func(s string) string { return strings.Repeat(s, api.MaxSource/len(s)) }
	for _, s := range []string{fill(". "), fill("#\n"), fill("#\\\n"), fill(".a"), fill(`""`), fill("1#\n"), fill("a b:"), fill("?")} {
		l := tokens(t, s)
		lead, got := Items(l)
		notes := len(lead)
		for i, it := range got {
			notes += len(it.Notes)
			if i > 0 && it.At < got[i-1].At+len(got[i-1].Tok.Text) || s[it.At:it.At+len(it.Tok.Text)] != it.Tok.Text {
				t.Fatalf("Items of %.10q..: %d at %d", s, i, it.At)
			}
		}
		if want := Notes(l); notes != len(want) {
			t.Errorf("Items of %.10q..: %d notes, want %d", s, notes, len(want))
		}
		keeps(t, s)
	}
	// More than a source may have: there is no bound here.
	many := slices.Repeat([]api.Tok{tok(api.Note, "#"), tok(api.Word, "a"), tok(api.Word, strings.Repeat("b", 70000))}, 300)
	lead, got := Items(many)
	if len(lead) != 1 || len(got) != 600 || got[599].At != 299*70002+2 {
		t.Errorf("%d notes ahead, %d items", len(lead), len(got))
	}
	if n := len(Line(many)); n != 300*70001+599 {
		t.Errorf("a line of %d bytes", n)
	}
}

func TestFieldsWithoutMeaningAreZero(t *testing.T) {
	_, l := Items(tokens(t, "1 "))
	if !reflect.DeepEqual(l, []api.Item{{Tok: tok(api.Num, "1")}}) {
		t.Errorf("%v", l)
	}
}

func TestItStandsOnApiAndLexAlone(t *testing.T) {
	files, err := os.ReadDir(".")
	if err != nil {
		t.Fatal(err)
	}
	for _, file := range files {
		if strings.HasSuffix(file.Name(), "_test.go") {
			continue
		}
		f, err := parser.ParseFile(token.NewFileSet(), file.Name(), nil, parser.ImportsOnly)
		if err != nil {
			t.Fatal(err)
		}
		for _, i := range f.Imports {
			own := strings.HasPrefix(i.Path.Value, `"subeditor`)
			if own && !slices.Contains([]string{`"subeditor/api"`, `"subeditor/lex"`}, i.Path.Value) {
				t.Errorf("%s imports %s", file.Name(), i.Path.Value)
			}
		}
	}
}
