package sign

import (
	"go/parser"
	"go/token"
	"regexp"
	"slices"
	"strings"
	"testing"
)

// The chapter's words as patterns; what they find is the longest that there is.
var (
	plainWords  = longest(`[A-Za-z_][A-Za-z_0-9]*`)
	wordWords   = longest(`[A-Za-z_][A-Za-z_0-9]*(::[A-Za-z_][A-Za-z_0-9]*)*`)
	numberWords = longest(`([0-9]+(\.[0-9]*)?|\.[0-9]+)([eE][+-]?[0-9]+)?`)
	escapeWords = longest(`\\(["\\/bfnrt]|u[0-9a-fA-F][0-9a-fA-F][0-9a-fA-F][0-9a-fA-F])`)
)

const (
	operWords = "?// //= != == <= >= |= += -= *= /= %= // .. . [ ] ( ) { } , : ; = | + - * / % < > ?"
	keyWords  = "and as break catch def elif else end foreach if import include label module or reduce then try"
)

func longest(pattern string) *regexp.Regexp {
	r := regexp.MustCompile(`^(` + pattern + `)`)
	r.Longest()
	return r
}

// found is how many bytes of s a pattern has at the front.
func found(r *regexp.Regexp, s string) int {
	return len(r.FindString(s))
}

// operByWords is Oper by the chapter's list.
func operByWords(s string) int {
	n := 0
	for _, o := range strings.Fields(operWords) {
		if len(o) > n && len(s) >= len(o) && s[:len(o)] == o {
			n = len(o)
		}
	}
	return n
}

// rows calls f with each text of at most n of the bytes.
func rows(bytes string, n int, f func(string)) {
	f("")
	if n == 0 {
		return
	}
	for i := range len(bytes) {
		rows(bytes, n-1, func(s string) { f(bytes[i:i+1] + s) })
	}
}

type sized struct {
	s    string
	want int
}

// check holds a call against what it should tell of each text.
func check(t *testing.T, name string, call func(string) int, cases []sized) {
	t.Helper()
	for _, c := range cases {
		if got := call(c.s); got != c.want {
			t.Errorf("%s(%q) = %d, want %d", name, c.s, got, c.want)
		}
	}
}

func TestEachByteIsWhatTheChapterSays(t *testing.T) {
	const (
		letters = "abcdefghijklmnopqrstuvwxyzABCDEFGHIJKLMNOPQRSTUVWXYZ_"
		digits  = "0123456789"
		blanks  = "\x20\x09\x0a\x0d"
	)
	for i := range 256 {
		c := byte(i)
		if got, want := Letter(c), strings.IndexByte(letters, c) >= 0; got != want {
			t.Errorf("Letter(%#x) = %t", c, got)
		}
		if got, want := Digit(c), strings.IndexByte(digits, c) >= 0; got != want {
			t.Errorf("Digit(%#x) = %t", c, got)
		}
		if got, want := Blank(c), strings.IndexByte(blanks, c) >= 0; got != want {
			t.Errorf("Blank(%#x) = %t", c, got)
		}
	}
}

func TestWordAtTheFront(t *testing.T) {
	check(t, "Word", Word, []sized{
		{"", 0},
		{"a", 1},
		{"_", 1},
		{"Z9_a b", 4},
		{"a1", 2},
		{"1a", 0},
		{" a", 0},
		{"a::b::", 4},
		{"a::b::c", 7},
		{"a::b", 4},
		{"a::_1-", 5},
		{"a:", 1},
		{"a:b", 1},
		{"a::", 1},
		{"a:::b", 1},
		{"a::::b", 1},
		{"a::1", 1},
		{"a:: b", 1},
		{"a ::b", 1},
		{"::a", 0},
		{"and::or", 7},
		{"a.b", 1},
		{"a\u00e9", 1},
		{"\u00e9a", 0},
		{"a\x00", 1},
		{"a\xff", 1},
		{"a-b", 1},
		{"$a", 0},
	})
}

func TestNumberAtTheFront(t *testing.T) {
	check(t, "Number", Number, []sized{
		{"", 0},
		{"0", 1},
		{"0123456789", 10},
		{"12a", 2},
		{"1.", 2},
		{"1.5", 3},
		{"1.5.5", 3},
		{"1..2", 2},
		{".5", 2},
		{".5.5", 2},
		{".", 0},
		{"..5", 0},
		{".e5", 0},
		{"e5", 0},
		{"1e5", 3},
		{"1E5", 3},
		{"1e+5", 4},
		{"1E-05x", 5},
		{"1.e5", 4},
		{"1.5e5", 5},
		{".5e5", 4},
		{"1e", 1},
		{"1e+", 1},
		{"1.5e+x", 3},
		{"1.e", 2},
		{".5e-", 2},
		{"1e++5", 1},
		{"1e 5", 1},
		{"1ee5", 1},
		{"1e5e5", 3},
		{"1e5.5", 3},
		{"1e.5", 1},
		{"-1", 0},
		{"+1", 0},
		{" 1", 0},
		{"0x1", 1},
		{"1_0", 1},
		{"\u0661", 0},
	})
}

func TestOperAtTheFront(t *testing.T) {
	var cases []sized
	for _, o := range strings.Fields(operWords) {
		cases = append(cases, sized{o, len(o)}, sized{o + "a", len(o)}, sized{" " + o, 0})
	}
	check(t, "Oper", Oper, append(cases, []sized{
		{"", 0},
		{"?//=", 3},
		{"?/", 1},
		{"?/=", 1},
		{"??//", 1},
		{"//=", 3},
		{"//==", 3},
		{"///", 2},
		{"/=", 2},
		{"/==", 2},
		{"===", 2},
		{"=>", 1},
		{"...", 2},
		{".=", 1},
		{"::", 1},
		{"||=", 1},
		{"|==", 2},
		{"<>", 1},
		{"!", 0},
		{"!!=", 0},
		{"&", 0},
		{"#", 0},
		{"@", 0},
		{"$", 0},
		{"\"", 0},
		{"'", 0},
		{"\\", 0},
		{"^", 0},
		{"~", 0},
		{"`", 0},
		{"and", 0},
		{"1", 0},
		{"\x00", 0},
		{"\xff", 0},
	}...))
}

func TestEscapeAtTheFront(t *testing.T) {
	check(t, "Escape", Escape, []sized{
		{"", 0},
		{`\`, 0},
		{`\"`, 2},
		{`\\`, 2},
		{`\/`, 2},
		{`\b`, 2},
		{`\f`, 2},
		{`\n`, 2},
		{`\r`, 2},
		{`\t`, 2},
		{`\nn`, 2},
		{`\\u00e9`, 2},
		{`\u00e9x`, 6},
		{`\u0000`, 6},
		{`\u9999`, 6},
		{`\uabcd`, 6},
		{`\uefAB`, 6},
		{`\uCDEF`, 6},
		{`\ud800`, 6},
		{`\u00e9a`, 6},
		{`\u`, 0},
		{`\u0`, 0},
		{`\u00`, 0},
		{`\u00e`, 0},
		{`\u00eg`, 0},
		{`\u00eG`, 0},
		{`\ug000`, 0},
		{`\u 000`, 0},
		{`\u00e"`, 0},
		{`\U00e9`, 0},
		{`\x41`, 0},
		{`\a`, 0},
		{`\v`, 0},
		{`\0`, 0},
		{`\'`, 0},
		{`\(`, 0},
		{`\N`, 0},
		{"\\\n", 0},
		{"\\\xff", 0},
		{"u00e9", 0},
		{`n`, 0},
		{`"`, 0},
		{` \n`, 0},
	})
}

func TestAgainstTheChaptersWords(t *testing.T) {
	compare := func(name string, got func(string) int, want func(string) int, bytes string, n int) {
		rows(bytes, n, func(s string) {
			if g, w := got(s), want(s); g != w {
				t.Fatalf("%s(%q) = %d, want %d", name, s, g, w)
			}
		})
	}
	compare("Word", Word, func(s string) int { return found(wordWords, s) }, "aZ_0:.", 6)
	compare("Number", Number, func(s string) int { return found(numberWords, s) }, "09.eE+-", 6)
	compare("Oper", Oper, operByWords, "?/=!<>|+-*%.[](){},:;a& ", 3)
	compare("Oper", Oper, operByWords, "?/=.!", 5)
	compare("Escape", Escape, func(s string) int { return found(escapeWords, s) }, `\u0aFg"`, 6)
}

func TestEachByteBehindAnother(t *testing.T) {
	for a := range 256 {
		for b := range 256 {
			s := string([]byte{byte(a), byte(b)})
			if Word(s) != found(wordWords, s) || Number(s) != found(numberWords, s) || Oper(s) != operByWords(s) || Escape(s) != found(escapeWords, s) {
				t.Fatalf("%q: %d, %d, %d, %d", s, Word(s), Number(s), Oper(s), Escape(s))
			}
		}
	}
}

func TestEachByteAmongTheFourOfAnEscape(t *testing.T) {
	for at := 2; at < 6; at++ {
		for c := range 256 {
			s := []byte(`\u0000`)
			s[at] = byte(c)
			if got, want := Escape(string(s)), found(escapeWords, string(s)); got != want {
				t.Errorf("Escape(%q) = %d, want %d", s, got, want)
			}
		}
	}
}

func TestKeysAreTheLanguagesWords(t *testing.T) {
	words := strings.Fields(keyWords)
	for _, k := range words {
		if !Key(k) || Plain(k) {
			t.Errorf("%q: Key %t, Plain %t", k, Key(k), Plain(k))
		}
		for _, s := range []string{
			strings.ToUpper(k), strings.ToUpper(k[:1]) + k[1:], k + "_", "_" + k, k + "1", k + k, k + "x",
		} {
			if Key(s) || !Plain(s) {
				t.Errorf("%q: Key %t, Plain %t", s, Key(s), Plain(s))
			}
		}
		for _, s := range []string{k + " ", " " + k, k + "\n", k + "\x00", k + "::" + k, "$" + k, "." + k, k + ":"} {
			if Key(s) || Plain(s) {
				t.Errorf("%q: Key %t, Plain %t", s, Key(s), Plain(s))
			}
		}
		for n := 1; n < len(k); n++ {
			if want := slices.Contains(words, k[:n]); Key(k[:n]) != want || Plain(k[:n]) == want {
				t.Errorf("%q: Key %t, Plain %t", k[:n], Key(k[:n]), Plain(k[:n]))
			}
		}
	}
	for _, s := range []string{"", "not", "null", "true", "false", "empty", "input", "limit", "__loc__", "reduces", "const"} {
		if Key(s) {
			t.Errorf("%q is a key", s)
		}
	}
}

func TestNoOtherShortTextIsAKey(t *testing.T) {
	words := strings.Fields(keyWords)
	rows("abcdefghijklmnopqrstuvwxyz", 4, func(s string) {
		if got, want := Key(s), slices.Contains(words, s); got != want {
			t.Fatalf("Key(%q) = %t", s, got)
		}
	})
}

func TestPlainIsOneSimpleNameAndNoKey(t *testing.T) {
	words := strings.Fields(keyWords)
	want := func(s string) bool {
		return s != "" && found(plainWords, s) == len(s) && !slices.Contains(words, s)
	}
	for _, s := range []string{
		"", "a", "_", "a1", "1a", "1", "a::b", "a:b", "::a", "a ", " a", "a-b", "a.b", "$a", ".a", "@a",
		"a\u00e9", "\u00e9", "a\n", "a\x00", "\xff", "__loc__", "not", "define", "ends", "iff",
	} {
		if got := Plain(s); got != want(s) {
			t.Errorf("Plain(%q) = %t", s, got)
		}
	}
	rows("asordfi0_: ", 4, func(s string) {
		if got := Plain(s); got != want(s) {
			t.Fatalf("Plain(%q) = %t", s, got)
		}
	})
}

func TestLongTexts(t *testing.T) {
	const many = 1 << 16
	row := func(s string) string { return strings.Repeat(s, many) }
	check(t, "Word", Word, []sized{
		{row("a"), many},
		{row("a") + "::" + row("b") + "::", 2*many + 2},
		{row("a::"), 3*many - 2},
		{row(":"), 0},
	})
	check(t, "Number", Number, []sized{
		{row("1") + "." + row("2") + "e-" + row("3") + ".", 3*many + 3},
		{row("1") + "e", many},
		{row("."), 0},
	})
	check(t, "Oper", Oper, []sized{{row("/"), 2}, {row("."), 2}, {row("="), 2}})
	check(t, "Escape", Escape, []sized{{row(`\`), 2}, {`\u` + row("a"), 6}, {row(`\u`), 0}})
	if !Plain(row("a")) || Plain(row("a")+"-") || Plain(row("1")) || Key(row("if")) {
		t.Error("a long name")
	}
}

func TestItStandsOnNothing(t *testing.T) {
	f, err := parser.ParseFile(token.NewFileSet(), "sign.go", nil, parser.ImportsOnly)
	if err != nil {
		t.Fatal(err)
	}
	for _, i := range f.Imports {
		if strings.HasPrefix(i.Path.Value, `"subeditor`) {
			t.Errorf("sign imports %s", i.Path.Value)
		}
	}
}
