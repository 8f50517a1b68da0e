package lex

import (
	"go/parser"
	"go/token"
	"math/rand"
	"os"
	"regexp"
	"slices"
	"strings"
	"testing"
	"unsafe"

	"subeditor/api"
)

// told is one token as `kind text`.
func told(t api.Tok) string {
	names := []string{"none", "Space", "Note", "Word", "Field", "Var", "Num", "Quote", "Piece", "Open", "Close", "End", "Format", "Op"}
	if t.Kind < 0 || t.Kind >= len(names) {
		return "? " + t.Text
	}
	return names[t.Kind] + " " + t.Text
}

// all are tokens as texts.
func all(l []api.Tok) []string {
	var out []string
	for _, t := range l {
		out = append(out, told(t))
	}
	return out
}

type good struct {
	s    string
	want []string
}

// checkGood holds Tokens against what it should tell.
func checkGood(t *testing.T, cases []good) {
	t.Helper()
	for _, c := range cases {
		l, err, at := Tokens(c.s)
		if err != api.OK || at != 0 || !slices.Equal(all(l), c.want) {
			t.Errorf("Tokens(%q) = %q, %d, %d, want %q", c.s, all(l), err, at, c.want)
		}
		if got := Join(l); got != c.s {
			t.Errorf("Join of Tokens(%q) = %q", c.s, got)
		}
		if !Right(l) {
			t.Errorf("Tokens(%q) are not right", c.s)
		}
	}
}

type bad struct {
	s    string
	want api.Errno
	at   int
}

// checkBad holds Tokens against the error that it should tell, and where.
func checkBad(t *testing.T, cases []bad) {
	t.Helper()
	for _, c := range cases {
		l, err, at := Tokens(c.s)
		if l != nil || err != c.want || at != c.at {
			t.Errorf("Tokens(%.40q) = %q, %d, %d, want %d, %d", c.s, all(l), err, at, c.want, c.at)
		}
	}
}

func TestKindsOutsideStrings(t *testing.T) {
	checkGood(t, []good{
		{"", nil},
		{" ", []string{"Space  "}},
		{" \t\r\n \n", []string{"Space  \t\r\n \n"}},
		{"a b", []string{"Word a", "Space  ", "Word b"}},
		{"if", []string{"Word if"}},
		{"a::b", []string{"Word a::b"}},
		{"a::b::", []string{"Word a::b", "Op :", "Op :"}},
		{"::a", []string{"Op :", "Op :", "Word a"}},
		{".a", []string{"Field .a"}},
		{"._1", []string{"Field ._1"}},
		{".if", []string{"Field .if"}},
		{".a.b", []string{"Field .a", "Field .b"}},
		{".a::b", []string{"Field .a", "Op :", "Op :", "Word b"}},
		{"..a", []string{"Op ..", "Word a"}},
		{"...a", []string{"Op ..", "Field .a"}},
		{". a", []string{"Op .", "Space  ", "Word a"}},
		{".e5", []string{"Field .e5"}},
		{"$a", []string{"Var $a"}},
		{"$a::b", []string{"Var $a::b"}},
		{"$a::b::1", []string{"Var $a::b", "Op :", "Op :", "Num 1"}},
		{"$__loc__", []string{"Var $__loc__"}},
		{"$end.a", []string{"Var $end", "Field .a"}},
		{"@a", []string{"Format @a"}},
		{"@1", []string{"Format @1"}},
		{"@_", []string{"Format @_"}},
		{"@base64d.a", []string{"Format @base64d", "Field .a"}},
		{"@64a-b", []string{"Format @64a", "Op -", "Word b"}},
		{"@a::b", []string{"Format @a", "Op :", "Op :", "Word b"}},
		{"1", []string{"Num 1"}},
		{"1.5e+x", []string{"Num 1.5", "Word e", "Op +", "Word x"}},
		{"1.5e+3x", []string{"Num 1.5e+3", "Word x"}},
		{"1a", []string{"Num 1", "Word a"}},
		{"a1", []string{"Word a1"}},
		{".5", []string{"Num .5"}},
		{".5.a", []string{"Num .5", "Field .a"}},
		{"1.a", []string{"Num 1.", "Word a"}},
		{"1..a", []string{"Num 1.", "Field .a"}},
		{"1..2", []string{"Num 1.", "Num .2"}},
		{"..5", []string{"Op ..", "Num 5"}},
		{"-1", []string{"Op -", "Num 1"}},
		{"a-1", []string{"Word a", "Op -", "Num 1"}},
		{"?//=", []string{"Op ?//", "Op ="}},
		{"//==", []string{"Op //=", "Op ="}},
		{"..[]", []string{"Op ..", "Op [", "Op ]"}},
		{"a|b,c;d", []string{"Word a", "Op |", "Word b", "Op ,", "Word c", "Op ;", "Word d"}},
		{"1  + .  . a", []string{"Num 1", "Space   ", "Op +", "Space  ", "Op .", "Space   ", "Op .", "Space  ", "Word a"}},
	})
}

func TestEachOperatorIsAnOp(t *testing.T) {
	for _, o := range strings.Fields("?// //= != == <= >= |= += -= *= /= %= // .. . [ ] ( ) { } , : ; = | + - * / % < > ?") {
		checkGood(t, []good{
			{o, []string{"Op " + o}},
			{"a" + o + " b", []string{"Word a", "Op " + o, "Space  ", "Word b"}},
		})
	}
}

func TestBracketsOutsideNeedNotAgree(t *testing.T) {
	checkGood(t, []good{
		{"()", []string{"Op (", "Op )"}},
		{")(", []string{"Op )", "Op ("}},
		{")))", []string{"Op )", "Op )", "Op )"}},
		{"([{", []string{"Op (", "Op [", "Op {"}},
		{`)"\(1)"`, []string{"Op )", `Quote "`, `Open \(`, "Num 1", "Close )", `End "`}},
		{`("\(1)"`, []string{"Op (", `Quote "`, `Open \(`, "Num 1", "Close )", `End "`}},
	})
}

func TestNotes(t *testing.T) {
	checkGood(t, []good{
		{"#", []string{"Note #"}},
		{"# x", []string{"Note # x"}},
		{"# x\n", []string{"Note # x", "Space \n"}},
		{"1# x\n#\n2", []string{"Num 1", "Note # x", "Space \n", "Note #", "Space \n", "Num 2"}},
		{"# a # b", []string{"Note # a # b"}},
		{"# \"a\\(", []string{"Note # \"a\\("}},
		{"# ~\t!", []string{"Note # ~\t!"}},
		{"# \u00e9\x00", []string{"Note # \u00e9\x00"}},
		{"# x\r\n1", []string{"Note # x\r", "Space \n", "Num 1"}},
		{"# x\r1\n2", []string{"Note # x\r1", "Space \n", "Num 2"}},
		{"#\\\n1", []string{"Note #\\\n1"}},
		{"#\\\n1\n2", []string{"Note #\\\n1", "Space \n", "Num 2"}},
		{"#\\\\\n1", []string{"Note #\\\\", "Space \n", "Num 1"}},
		{"#\\\\\\\n1", []string{"Note #\\\\\\\n1"}},
		{"#\\\\\\\\\n1", []string{"Note #\\\\\\\\", "Space \n", "Num 1"}},
		{"#\\\r\n1", []string{"Note #\\\r\n1"}},
		{"#\\\\\r\n1", []string{"Note #\\\\\r", "Space \n", "Num 1"}},
		{"#\\\\\\\r\n1", []string{"Note #\\\\\\\r\n1"}},
		{"#\\\r\r\n1", []string{"Note #\\\r\r", "Space \n", "Num 1"}},
		{"#\\\r1\n2", []string{"Note #\\\r1", "Space \n", "Num 2"}},
		{"#\\ \n1", []string{"Note #\\ ", "Space \n", "Num 1"}},
		{"#\\a\\\n1", []string{"Note #\\a\\\n1"}},
		{"#\\\n\\\n1", []string{"Note #\\\n\\\n1"}},
		{"#\\\n\n1", []string{"Note #\\\n", "Space \n", "Num 1"}},
		{"#\\\n\\\\\n1", []string{"Note #\\\n\\\\", "Space \n", "Num 1"}},
		{"#\\\n#\n1", []string{"Note #\\\n#", "Space \n", "Num 1"}},
		{"#\\", []string{"Note #\\"}},
		{"#\\\n", []string{"Note #\\\n"}},
		{"#\\\r\n", []string{"Note #\\\r\n"}},
		{"#\\\r", []string{"Note #\\\r"}},
	})
}

func TestStrings(t *testing.T) {
	checkGood(t, []good{
		{`""`, []string{`Quote "`, `End "`}},
		{`"a"`, []string{`Quote "`, "Piece a", `End "`}},
		{`"a""b"`, []string{`Quote "`, "Piece a", `End "`, `Quote "`, "Piece b", `End "`}},
		{`" #1 . ~) "`, []string{`Quote "`, "Piece  #1 . ~) ", `End "`}},
		{"\"\n\x00\u00e9\U0001f600\"", []string{`Quote "`, "Piece \n\x00\u00e9\U0001f600", `End "`}},
		{`"a\n\"\\\/\b\f\r\tb"`, []string{`Quote "`, `Piece a\n\"\\\/\b\f\r\tb`, `End "`}},
		{`"\u00e9\uD800\uabCDe"`, []string{`Quote "`, `Piece \u00e9\uD800\uabCDe`, `End "`}},
		{`"\\"`, []string{`Quote "`, `Piece \\`, `End "`}},
		{`"\\\(1)"`, []string{`Quote "`, `Piece \\`, `Open \(`, "Num 1", "Close )", `End "`}},
		{`"\\(1)"`, []string{`Quote "`, `Piece \\(1)`, `End "`}},
		{`@json"a"`, []string{"Format @json", `Quote "`, "Piece a", `End "`}},
		{`."a"`, []string{"Op .", `Quote "`, "Piece a", `End "`}},
		{`$a"b"`, []string{"Var $a", `Quote "`, "Piece b", `End "`}},
	})
}

func TestOpens(t *testing.T) {
	checkGood(t, []good{
		{`.a|"x\(1)"`, []string{"Field .a", "Op |", `Quote "`, "Piece x", `Open \(`, "Num 1", "Close )", `End "`}},
		{`"\()"`, []string{`Quote "`, `Open \(`, "Close )", `End "`}},
		{`"\(1)\(2)"`, []string{`Quote "`, `Open \(`, "Num 1", "Close )", `Open \(`, "Num 2", "Close )", `End "`}},
		{`"\(1)a)"`, []string{`Quote "`, `Open \(`, "Num 1", "Close )", "Piece a)", `End "`}},
		{`"\((1))"`, []string{`Quote "`, `Open \(`, "Op (", "Num 1", "Op )", "Close )", `End "`}},
		{`"\(()()))"`, []string{`Quote "`, `Open \(`, "Op (", "Op )", "Op (", "Op )", "Close )", "Piece )", `End "`}},
		{`"\((()))"`, []string{`Quote "`, `Open \(`, "Op (", "Op (", "Op )", "Op )", "Close )", `End "`}},
		{`"\([{)"`, []string{`Quote "`, `Open \(`, "Op [", "Op {", "Close )", `End "`}},
		{`"\("a)")"`, []string{`Quote "`, `Open \(`, `Quote "`, "Piece a)", `End "`, "Close )", `End "`}},
		{`"\(("\()"))"`, []string{`Quote "`, `Open \(`, "Op (", `Quote "`, `Open \(`, "Close )", `End "`, "Op )", "Close )", `End "`}},
		{`"\("\((1))"(2))"`, []string{
			`Quote "`, `Open \(`, `Quote "`, `Open \(`, "Op (", "Num 1", "Op )", "Close )", `End "`,
			"Op (", "Num 2", "Op )", "Close )", `End "`,
		}},
		{"\"\\(# )\n)\"", []string{`Quote "`, `Open \(`, "Note # )", "Space \n", "Close )", `End "`}},
		{`(("\(1)")`, []string{"Op (", "Op (", `Quote "`, `Open \(`, "Num 1", "Close )", `End "`, "Op )"}},
		{`"\(1)")`, []string{`Quote "`, `Open \(`, "Num 1", "Close )", `End "`, "Op )"}},
	})
}

func TestErrSign(t *testing.T) {
	checkBad(t, []bad{
		{"1 ~", api.ErrSign, 2},
		{"~", api.ErrSign, 0},
		{"!", api.ErrSign, 0},
		{"!!=", api.ErrSign, 0},
		{"&", api.ErrSign, 0},
		{"'", api.ErrSign, 0},
		{"^", api.ErrSign, 0},
		{"`", api.ErrSign, 0},
		{"\\", api.ErrSign, 0},
		{"\\(", api.ErrSign, 0},
		{"\\n", api.ErrSign, 0},
		{"\x00", api.ErrSign, 0},
		{"\x0b", api.ErrSign, 0},
		{"\x0c", api.ErrSign, 0},
		{"\x7f", api.ErrSign, 0},
		{"\u00a0", api.ErrSign, 0},
		{"a\u00e9", api.ErrSign, 1},
		{"$", api.ErrSign, 0},
		{"$1", api.ErrSign, 0},
		{"$ a", api.ErrSign, 0},
		{"$$a", api.ErrSign, 0},
		{"a$::b", api.ErrSign, 1},
		{"@", api.ErrSign, 0},
		{"@ a", api.ErrSign, 0},
		{"@\"a\"", api.ErrSign, 0},
		{"1@-", api.ErrSign, 1},
		{`"\(~)"`, api.ErrSign, 3},
		{`"\(\(1))"`, api.ErrSign, 3},
		{"#\n~", api.ErrSign, 2},
		{"~\"\\q", api.ErrSign, 0},
	})
}

func TestErrText(t *testing.T) {
	checkBad(t, []bad{
		{`"\q"`, api.ErrText, 1},
		{`"ab\q"`, api.ErrText, 3},
		{`"\n\q"`, api.ErrText, 3},
		{`"\\\q"`, api.ErrText, 3},
		{`"\u12"`, api.ErrText, 1},
		{`"\u123g"`, api.ErrText, 1},
		{`"\U1234"`, api.ErrText, 1},
		{`"\'"`, api.ErrText, 1},
		{`"\0"`, api.ErrText, 1},
		{"\"\\\n\"", api.ErrText, 1},
		{"\"\\\u00e9\"", api.ErrText, 1},
		{`"\`, api.ErrText, 1},
		{`"a\`, api.ErrText, 2},
		{`"\(1)\x"`, api.ErrText, 5},
		{`"\("\y")"`, api.ErrText, 4},
		{`"\(1)\`, api.ErrText, 5},
		{`"\q~`, api.ErrText, 1},
	})
}

func TestErrEnd(t *testing.T) {
	checkBad(t, []bad{
		{`"`, api.ErrEnd, 1},
		{`"a`, api.ErrEnd, 2},
		{`1 "ab`, api.ErrEnd, 5},
		{`"a" "`, api.ErrEnd, 5},
		{`"\"`, api.ErrEnd, 3},
		{`"\(`, api.ErrEnd, 3},
		{`"\(1`, api.ErrEnd, 4},
		{`"\(1)`, api.ErrEnd, 5},
		{`"\((1)`, api.ErrEnd, 6},
		{`"\((1)"`, api.ErrEnd, 7},
		{`"\("1")`, api.ErrEnd, 7},
		{`"\(#)"`, api.ErrEnd, 6},
		{"\"\u00e9", api.ErrEnd, 3},
		{`"""`, api.ErrEnd, 3},
	})
}

// deep has n strings with an Open each, one in the other; if it is whole, all are ended.
func deep(n int, whole bool) string {
	s := strings.Repeat(`"\(`, n)
	if whole {
		s += "1" + strings.Repeat(`)"`, n)
	}
	return s
}

func TestErrDeep(t *testing.T) {
	l, err, at := Tokens(deep(256, true))
	if err != api.OK || at != 0 || len(l) != 256*4+1 || !Right(l) {
		t.Errorf("256 Opens: %d tokens, %d, %d", len(l), err, at)
	}
	rest := strings.Repeat(`)"`, 255)
	checkBad(t, []bad{
		{deep(257, true), api.ErrDeep, 256*3 + 1},
		{deep(300, true), api.ErrDeep, 256*3 + 1},
		{deep(257, false), api.ErrDeep, 256*3 + 1},
		{deep(256, false), api.ErrEnd, 256 * 3},
		{deep(256, false) + `"`, api.ErrEnd, 256*3 + 1},
		{deep(256, false) + `"ab\(`, api.ErrDeep, 256*3 + 3},
		{deep(256, false) + `"\q`, api.ErrText, 256*3 + 1},
		{deep(256, false) + `~"\(`, api.ErrSign, 256 * 3},
		{deep(256, false) + `1)\("\(`, api.ErrDeep, 256*3 + 5},
		{"~" + deep(257, true), api.ErrSign, 0},
	})
	// One that is ended makes room for another one, and brackets that are no Opens take none.
	for _, s := range []string{
		deep(256, false) + `1)\(2)"` + rest,
		deep(256, false) + `"a")"` + rest,
		strings.Repeat(`"\(1)"`, 1000),
		`"` + strings.Repeat(`\(1)`, 1000) + `"`,
		`"\(` + strings.Repeat("(", 1000) + strings.Repeat(")", 1000) + `)"`,
		strings.Repeat("([{", 1000),
	} {
		if l, err, at := Tokens(s); err != api.OK || at != 0 || Join(l) != s {
			t.Errorf("Tokens(%.40q..) = %d tokens, %d, %d", s, len(l), err, at)
		}
	}
}

func TestErrLongAndErrUtfComeFirst(t *testing.T) {
	row := func(s string, n int) string { return strings.Repeat(s, n) }
	checkBad(t, []bad{
		{row("1", api.MaxSource+1), api.ErrLong, 0},
		{row("~", api.MaxSource+1), api.ErrLong, 0},
		{row("\xff", api.MaxSource+1), api.ErrLong, 0},
		{row("\u00e9", api.MaxSource/2) + " ", api.ErrLong, 0},
		{row(" ", api.MaxSource-1) + "\xff", api.ErrUtf, api.MaxSource - 1},
		{row(" ", api.MaxSource-1) + "~", api.ErrSign, api.MaxSource - 1},
		{row(" ", api.MaxSource-1) + "\"", api.ErrEnd, api.MaxSource},
		{"~\xff", api.ErrUtf, 1},
		{"\"\\q\xc3\"", api.ErrUtf, 3},
		{"\"\xff\"", api.ErrUtf, 1},
		{"# \xed\xa0\x80", api.ErrUtf, 2},
		{"\xff\xfe", api.ErrUtf, 0},
		{deep(257, true) + "\x80", api.ErrUtf, 257*5 + 1},
	})
	for _, s := range []string{row("1", api.MaxSource), row(" ", api.MaxSource), row("(", api.MaxSource), "#" + row("\\\n", api.MaxSource/2-1)} {
		if l, err, at := Tokens(s); err != api.OK || at != 0 || Join(l) != s {
			t.Errorf("Tokens(%.10q..) = %d tokens, %d, %d", s, len(l), err, at)
		}
	}
}

// The chapter's words once more, as patterns and by recursion.
var (
	outsideWords = []word{
		{api.Space, front(`[ \t\n\r]+`)},
		{api.Note, front(`#(\\\r?\n|\\\\|[^\n])*`)},
		{api.Word, front(`[A-Za-z_]\w*(::[A-Za-z_]\w*)*`)},
		{api.Field, front(`\.[A-Za-z_]\w*`)},
		{api.Var, front(`\$[A-Za-z_]\w*(::[A-Za-z_]\w*)*`)},
		{api.Format, front(`@\w+`)},
		{api.Num, front(`([0-9]+(\.[0-9]*)?|\.[0-9]+)([eE][+-]?[0-9]+)?`)},
		{api.Quote, front(`"`)},
		{api.Op, front(`\?//|//=|[!=<>|+\-*/%]=|//|\.\.|[.\[\](){},:;=|+\-*/%<>?]`)},
	}
	pieceWords = front(`([^"\\]|\\["\\/bfnrt]|\\u[0-9a-fA-F]{4})+`)
)

type word struct {
	kind int
	find *regexp.Regexp
}

func front(pattern string) *regexp.Regexp {
	return regexp.MustCompile(`^(?:` + pattern + `)`)
}

// reader goes over a text that is UTF-8 and not too long.
type reader struct {
	s     string
	at    int
	opens int
	l     []api.Tok
}

func (r *reader) take(kind, n int) {
	r.l = append(r.l, api.Tok{Kind: kind, Text: r.s[r.at : r.at+n]})
	r.at += n
}

// outside reads up to the end, or, behind an Open, up to what ends it.
func (r *reader) outside(open bool) api.Errno {
	brackets := 0
	for r.at < len(r.s) {
		if open && r.s[r.at] == ')' && brackets == 0 {
			r.take(api.Close, 1)
			return api.OK
		}
		kind := 0
		for _, w := range outsideWords {
			if f := w.find.FindString(r.s[r.at:]); f != "" {
				kind = w.kind
				brackets += strings.Count(f, "(") * oneIf(kind == api.Op)
				brackets -= strings.Count(f, ")") * oneIf(kind == api.Op)
				r.take(kind, len(f))
				break
			}
		}
		if kind == 0 {
			return api.ErrSign
		}
		if kind == api.Quote {
			if err := r.inside(); err != api.OK {
				return err
			}
		}
	}
	if open {
		return api.ErrEnd
	}
	return api.OK
}

func oneIf(is bool) int {
	if is {
		return 1
	}
	return 0
}

// inside reads up to the string's end.
func (r *reader) inside() api.Errno {
	for r.at < len(r.s) {
		rest := r.s[r.at:]
		if f := pieceWords.FindString(rest); f != "" {
			r.take(api.Piece, len(f))
			continue
		}
		if rest[0] == '"' {
			r.take(api.End, 1)
			return api.OK
		}
		if !strings.HasPrefix(rest, `\(`) {
			return api.ErrText
		}
		if r.opens == 256 {
			return api.ErrDeep
		}
		r.opens++
		r.take(api.Open, 2)
		if err := r.outside(true); err != api.OK {
			return err
		}
		r.opens--
	}
	return api.ErrEnd
}

// againstWords holds Tokens against the reader.
func againstWords(t *testing.T, s string) {
	t.Helper()
	r := reader{s: s}
	want, place := r.outside(false), 0
	if want != api.OK {
		r.l, place = nil, r.at
	}
	l, err, at := Tokens(s)
	if err != want || at != place || !slices.Equal(l, r.l) {
		t.Fatalf("Tokens(%q) = %q, %d, %d, want %q, %d, %d", s, all(l), err, at, all(r.l), want, place)
	}
	if err == api.OK && (Join(l) != s || !Right(l)) {
		t.Fatalf("Tokens(%q) are not right", s)
	}
}

// rows calls f with each row of at most n of the pieces.
func rows(pieces []string, n int, f func(string)) {
	f("")
	if n == 0 {
		return
	}
	for _, p := range pieces {
		rows(pieces, n-1, func(s string) { f(p + s) })
	}
}

func TestAgainstTheChaptersWords(t *testing.T) {
	each := func(bytes string, n int) {
		rows(strings.Split(bytes, ""), n, func(s string) { againstWords(t, s) })
	}
	each("a1.e:$@ ", 5)
	each("\"\\()nq", 6)
	each("#\\\n\r1", 6)
	each("?/=.(!#", 4)
	rows([]string{`"`, `\(`, "(", ")", `\`, "u00e9", "#", "\n"}, 5, func(s string) { againstWords(t, s) })
	for a := range 256 {
		for b := range 128 {
			pair := string([]rune{rune(a), rune(b)})
			againstWords(t, pair)
			againstWords(t, `"`+pair+`"`)
		}
	}
}

func TestLongerRowsAgainstTheChaptersWords(t *testing.T) {
	pieces := []string{
		`"`, `"`, `"`, `\(`, `\(`, `\(`, "(", ")", ")", ")", "a", ".a", "$a", "@a", "1", ".", "# x\n", "#\\\n", " ",
		"|", "?//", `\n`, `\u00e9`, "\u00e9", "a::b", "1e+", `"x\(`, `)"`, `)"`, `"y"`,
	}
	rng := rand.New(rand.NewSource(4))
	for range 60000 {
		var b strings.Builder
		for range rng.Intn(30) {
			b.WriteString(pieces[rng.Intn(len(pieces))])
		}
		againstWords(t, b.String())
	}
}

func TestJoin(t *testing.T) {
	for _, c := range []struct {
		l    []api.Tok
		want string
	}{
		{nil, ""},
		{[]api.Tok{}, ""},
		{[]api.Tok{{}}, ""},
		{[]api.Tok{{Kind: api.Word, Text: "a"}}, "a"},
		{[]api.Tok{{Kind: api.Word, Text: "a"}, {Kind: api.Word, Text: "b"}}, "ab"},
		{[]api.Tok{{Kind: 99, Text: "\xff"}, {Kind: -1}, {Kind: api.Op, Text: "~ "}}, "\xff~ "},
		{make([]api.Tok, 100000), ""},
		{[]api.Tok{{Kind: api.Num, Text: strings.Repeat("1", 70000)}}, strings.Repeat("1", 70000)},
	} {
		if got := Join(c.l); got != c.want {
			t.Errorf("Join(%.40q) = %.40q", all(c.l), got)
		}
	}
}

func TestRight(t *testing.T) {
	tok := func(kind int, text string) api.Tok { return api.Tok{Kind: kind, Text: text} }
	for _, c := range []struct {
		name string
		l    []api.Tok
		want bool
	}{
		{"none", nil, true},
		{"none, but a list", []api.Tok{}, true},
		{"a word", []api.Tok{tok(api.Word, "a")}, true},
		{"another kind", []api.Tok{tok(api.Field, "a")}, false},
		{"no kind", []api.Tok{tok(0, "a")}, false},
		{"an empty token", []api.Tok{{}}, false},
		{"an empty token of a kind", []api.Tok{tok(api.Word, "")}, false},
		{"an empty token behind", []api.Tok{tok(api.Word, "a"), tok(api.Space, "")}, false},
		{"an empty token ahead", []api.Tok{tok(api.Piece, ""), tok(api.Word, "a")}, false},
		{"two words that are one", []api.Tok{tok(api.Word, "a"), tok(api.Word, "b")}, false},
		{"one that is two", []api.Tok{tok(api.Word, "a b")}, false},
		{"blanks in two", []api.Tok{tok(api.Space, " "), tok(api.Space, " ")}, false},
		{"an operator in two", []api.Tok{tok(api.Op, "/"), tok(api.Op, "/")}, false},
		{"a field in two", []api.Tok{tok(api.Op, "."), tok(api.Word, "a")}, false},
		{"a field, and a word", []api.Tok{tok(api.Field, ".a"), tok(api.Word, "b")}, false},
		{"a number, and a word", []api.Tok{tok(api.Num, "1"), tok(api.Word, "b")}, true},
		{"a note that takes the word", []api.Tok{tok(api.Note, "#"), tok(api.Word, "b")}, false},
		{"a note, and a line feed", []api.Tok{tok(api.Note, "#"), tok(api.Space, "\n"), tok(api.Word, "b")}, true},
		{"a note that takes the line feed", []api.Tok{tok(api.Note, "#\\"), tok(api.Space, "\n"), tok(api.Word, "b")}, false},
		{"a string", []api.Tok{tok(api.Quote, `"`), tok(api.Piece, "a"), tok(api.End, `"`)}, true},
		{"a string with two pieces", []api.Tok{tok(api.Quote, `"`), tok(api.Piece, "a"), tok(api.Piece, "b"), tok(api.End, `"`)}, false},
		{"a string that ends by a Quote", []api.Tok{tok(api.Quote, `"`), tok(api.Quote, `"`)}, false},
		{"a Close that is an Op", []api.Tok{tok(api.Quote, `"`), tok(api.Open, `\(`), tok(api.Op, ")"), tok(api.End, `"`)}, false},
		{"an Op that is a Close", []api.Tok{tok(api.Close, ")")}, false},
		{"a string that is not ended", []api.Tok{tok(api.Quote, `"`)}, false},
		{"no sign", []api.Tok{tok(api.Op, "~")}, false},
		{"no text", []api.Tok{tok(api.Quote, `"`), tok(api.Piece, `\q`), tok(api.End, `"`)}, false},
		{"no UTF-8", []api.Tok{tok(api.Note, "#\xff")}, false},
		{"a rune in two", []api.Tok{tok(api.Note, "#\xc3"), tok(api.Note, "\xa9")}, false},
		{"as long as may be", []api.Tok{tok(api.Num, strings.Repeat("1", api.MaxSource))}, true},
		{"too long", []api.Tok{tok(api.Num, strings.Repeat("1", api.MaxSource+1))}, false},
		{"too long, in two", []api.Tok{tok(api.Num, strings.Repeat("1", api.MaxSource)), tok(api.Space, " ")}, false},
	} {
		if got := Right(c.l); got != c.want {
			t.Errorf("%s: Right = %t", c.name, got)
		}
	}
}

// shares says whether two texts have a byte of memory in common.
func shares(a, b string) bool {
	if a == "" || b == "" {
		return false
	}
	i, j := uintptr(unsafe.Pointer(unsafe.StringData(a))), uintptr(unsafe.Pointer(unsafe.StringData(b)))
	return i < j+uintptr(len(b)) && j < i+uintptr(len(a))
}

func TestAnswersAreNewMemory(t *testing.T) {
	s := strings.Clone(` .a|"some text\(@json)"# and a note`)
	first, _, _ := Tokens(s)
	again, _, _ := Tokens(s)
	for i, tok := range first {
		if shares(tok.Text, s) || shares(tok.Text, again[i].Text) {
			t.Errorf("%q is no new memory", tok.Text)
		}
	}
	if &first[0] == &again[0] {
		t.Error("two calls answer one list")
	}
	one := first[:1]
	if shares(Join(one), one[0].Text) || shares(Join(first), Join(first)) {
		t.Error("Join answers memory that is not new")
	}
}

func TestWhatIsHandedInStays(t *testing.T) {
	l := []api.Tok{{Kind: api.Num, Text: "1"}, {Kind: api.Op, Text: "+"}, {Kind: api.Word, Text: "behind"}}
	kept := slices.Clone(l)
	if got := Join(l[:2]); got != "1+" {
		t.Errorf("Join = %q", got)
	}
	if !Right(l[:2]) {
		t.Error("Right = false")
	}
	if !slices.Equal(l, kept) {
		t.Errorf("%q", all(l))
	}
}

func TestLongTexts(t *testing.T) {
	fill := func(s string) string { return strings.Repeat(s, api.MaxSource/len(s)) }
	half := strings.Repeat("(", api.MaxSource/2-3)
	for _, s := range []string{
		fill(". "), fill(".a"), fill(".a::b"), fill("a::"), fill("#\n"), fill("#\\\n"), fill("\\"), fill("#\\"), fill("1."), fill("1e"),
		fill("//"), fill("$a"), fill("@a"), fill(`""`), fill(`"\(1)"`), fill(`"\(`), fill("\"\\u0"), fill("$"),
		`"` + fill(`\n`)[2:] + `"`, `"` + fill(`\u00ff`)[6:] + `"`, `"` + fill(`\(1)`)[4:] + `"`,
		`"\(` + half + strings.Repeat(")", len(half)) + `)"`, `"\u` + fill("a")[4:] + `"`,
	} {
		againstWords(t, s)
	}
}

func TestItStandsOnApiUtfAndSignAlone(t *testing.T) {
	files, err := os.ReadDir(".")
	if err != nil {
		t.Fatal(err)
	}
	for _, file := range files {
		if strings.HasSuffix(file.Name(), "_test.go") {
			continue
		}
		f, err := parser.ParseFile(token.NewFileSet(), file.Name(), nil, parser.ImportsOnly)
		if err != nil {
			t.Fatal(err)
		}
		for _, i := range f.Imports {
			own := strings.HasPrefix(i.Path.Value, `"subeditor`)
			if own && !slices.Contains([]string{`"subeditor/api"`, `"subeditor/utf"`, `"subeditor/sign"`}, i.Path.Value) {
				t.Errorf("%s imports %s", file.Name(), i.Path.Value)
			}
		}
	}
}
