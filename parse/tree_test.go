package parse

import (
	"strings"
	"testing"

	"subeditor/api"
	"subeditor/prec"
)

// good is a source, and its tree.
type good struct{ s, want string }

func checkGood(t *testing.T, cases []good) {
	t.Helper()
	for _, c := range cases {
		n, err, at := Source(c.s)
		if err != api.OK || at != 0 || show(n) != c.want {
			t.Errorf("Source(%q) = %s, %d, %d, want %s", c.s, show(n), err, at, c.want)
		}
		n, err, at = Program(bare(tokens(t, c.s)))
		if err != api.OK || at != 0 || show(n) != c.want {
			t.Errorf("Program of %q = %s, %d, %d, want %s", c.s, show(n), err, at, c.want)
		}
	}
}

func TestTerms(t *testing.T) {
	checkGood(t, []good{
		{".", "Root"},
		{"..", "Deep"},
		{".a", "Name|a"},
		{".if", "Name|if"},
		{"$a", "Value|a"},
		{"$a::b", "Value|a::b"},
		{"$__loc__", "Value|__loc__"},
		{"$if", "Value|if"},
		{"1", "Number|1"},
		{"1.50e+03", "Number|1.50e+03"},
		{".5", "Number|.5"},
		{"@json", "Tag|@json"},
		{"@1", "Tag|@1"},
		{"[]", "Array"},
		{"[1]", "Array(Number|1)"},
		{"[1, 2]", "Array(Bin|,(Number|1 Number|2))"},
		{"(1)", "Paren(Number|1)"},
		{"((1))", "Paren(Paren(Number|1))"},
		{"(def f: 1; 2)", "Paren(Def|f(Number|1 Number|2))"},
		{"break $a", "Break|a"},
		{"break $a::b", "Break|a::b"},
		{"a", "Call|a"},
		{"a::b", "Call|a::b"},
		{"if::b", "Call|if::b"},
		{"not", "Call|not"},
		{"_", "Call|_"},
		{"IF", "Call|IF"},
		{"f(1)", "Call|f(Number|1)"},
		{"f (1)", "Call|f(Number|1)"},
		{"f(1; 2; 3)", "Call|f(Number|1 Number|2 Number|3)"},
		{"f(1, 2; g(3) | 4)", "Call|f(Bin|,(Number|1 Number|2) Bin||(Call|g(Number|3) Number|4))"},
		{"a::b(.)", "Call|a::b(Root)"},
		{" # x\n . # y", "Root"},
	})
}

func TestStrings(t *testing.T) {
	checkGood(t, []good{
		{`""`, "String"},
		{`"a"`, "String(Chunk|a)"},
		{`"a\n\u00e9"`, `String(Chunk|a\n\u00e9)`},
		{`"\(1)"`, "String(Number|1)"},
		{`"a\(1)b\(2)\(3)c"`, "String(Chunk|a Number|1 Chunk|b Number|2 Number|3 Chunk|c)"},
		{`"\(1, 2 | 3)"`, "String(Bin||(Bin|,(Number|1 Number|2) Number|3))"},
		{`"\("\(.)")"`, "String(String(Root))"},
		{`"\((1))"`, "String(Paren(Number|1))"},
		{`@json "a"`, "String|@json(Chunk|a)"},
		{`@json""`, "String|@json"},
		{`@json "\(@text)"`, "String|@json(Tag|@text)"},
		{`@json | "a"`, "Bin||(Tag|@json String(Chunk|a))"},
		{`."a"`, "DotText(None String(Chunk|a))"},
		{`. "a"`, "DotText(None String(Chunk|a))"},
		{`.@json "a"`, "DotText(None String|@json(Chunk|a))"},
		{`. . "a"`, "DotText(Root String(Chunk|a))"},
		{`. . @json "a"`, "DotText(Root String|@json(Chunk|a))"},
		{`.. ."a"`, "DotText(Deep String(Chunk|a))"},
		{`."a"."b"`, "DotText(DotText(None String(Chunk|a)) String(Chunk|b))"},
		{`.a."b\(1)"`, "DotText(Name|a String(Chunk|b Number|1))"},
		{`"a"."b"`, "DotText(String(Chunk|a) String(Chunk|b))"},
		{`@json."b"`, "DotText(Tag|@json String(Chunk|b))"},
		{`@json .@text "b"`, "DotText(Tag|@json String|@text(Chunk|b))"},
		{`$a . "b"`, "DotText(Value|a String(Chunk|b))"},
	})
}

func TestWhatGoesOnBehindATerm(t *testing.T) {
	checkGood(t, []good{
		{".a.b", "Dot|b(Name|a)"},
		{". .a", "Dot|a(Root)"},
		{"...a", "Dot|a(Deep)"},
		{"$a.b.c", "Dot|c(Dot|b(Value|a))"},
		{"f(1).b", "Dot|b(Call|f(Number|1))"},
		{"1.5.b", "Dot|b(Number|1.5)"},
		{".[]", "Iter(Root)"},
		{". .[]", "Iter|.(Root)"},
		{".a[]", "Iter(Name|a)"},
		{".a.[]", "Iter|.(Name|a)"},
		{".[1]", "Index(Root Number|1)"},
		{".a.[1]", "Index|.(Name|a Number|1)"},
		{".a . [1]", "Index|.(Name|a Number|1)"},
		{".[1, 2]", "Index(Root Bin|,(Number|1 Number|2))"},
		{".[1:]", "Slice(Root Number|1 None)"},
		{".[:1]", "Slice(Root None Number|1)"},
		{".[1:2]", "Slice(Root Number|1 Number|2)"},
		{".a.[1:]", "Slice|.(Name|a Number|1 None)"},
		{".a.[:1]", "Slice|.(Name|a None Number|1)"},
		{".a.[1:2]", "Slice|.(Name|a Number|1 Number|2)"},
		{".[-1:1|2]", "Slice(Root Neg(Number|1) Bin||(Number|1 Number|2))"},
		{".[def f: 1; 2:3]", "Slice(Root Def|f(Number|1 Number|2) Number|3)"},
		{"[][]", "Iter(Array)"},
		{"[[]]", "Array(Array)"},
		{"[1][2]", "Index(Array(Number|1) Number|2)"},
		{".a?", "Opt(Name|a)"},
		{".a??", "Opt(Opt(Name|a))"},
		{".a[]?.b?", "Opt(Dot|b(Opt(Iter(Name|a))))"},
		{"1?", "Opt(Number|1)"},
		{"..?", "Opt(Deep)"},
		{"1? // 2", "Bin|//(Opt(Number|1) Number|2)"},
		{"{}.a[0]", "Index(Dot|a(Object) Number|0)"},
		{"if 1 then 2 end[0]", "Index(If(Number|1 Number|2) Number|0)"},
		{"reduce . as $x (1; 2).a", "Dot|a(Reduce(Root Value|x Number|1 Number|2))"},
		{"break $a.b", "Dot|b(Break|a)"},
		{`"a".b`, "Dot|b(String(Chunk|a))"},
		{`"a"[1]`, "Index(String(Chunk|a) Number|1)"},
		{`.[0]."a".[1].b[]`, "Iter(Dot|b(Index|.(DotText(Index(Root Number|0) String(Chunk|a)) Number|1)))"},
	})
}

func TestObjects(t *testing.T) {
	checkGood(t, []good{
		{"{}", "Object"},
		{"{a}", "Object(Pair(Ident|a))"},
		{"{a: 1}", "Object(Pair(Ident|a Number|1))"},
		{"{a:1,b}", "Object(Pair(Ident|a Number|1) Pair(Ident|b))"},
		{"{if, and: 1, a::b: 2}", "Object(Pair(Ident|if) Pair(Ident|and Number|1) Pair(Ident|a::b Number|2))"},
		{"{$a}", "Object(Pair(Value|a))"},
		{"{$a: 1}", "Object(Pair(Value|a Number|1))"},
		{`{"a"}`, "Object(Pair(String(Chunk|a)))"},
		{`{"a\(1)": 2}`, "Object(Pair(String(Chunk|a Number|1) Number|2))"},
		{`{@json "a"}`, "Object(Pair(String|@json(Chunk|a)))"},
		{`{@json "a": @json}`, "Object(Pair(String|@json(Chunk|a) Tag|@json))"},
		{"{(1): 2}", "Object(Pair(KeyExp(Number|1) Number|2))"},
		{"{(1, 2 | 3): 4}", "Object(Pair(KeyExp(Bin||(Bin|,(Number|1 Number|2) Number|3)) Number|4))"},
		{"{a: -1}", "Object(Pair(Ident|a Neg(Number|1)))"},
		{"{a: --1.5.b?}", "Object(Pair(Ident|a Neg(Neg(Opt(Dot|b(Number|1.5))))))"},
		{"{a: 1 | 2}", "Object(Pair(Ident|a Bin||(Number|1 Number|2)))"},
		{"{a: 1 | -2 | 3, b}", "Object(Pair(Ident|a Bin||(Number|1 Bin||(Neg(Number|2) Number|3))) Pair(Ident|b))"},
		{"{a: -1 | 2}", "Object(Pair(Ident|a Bin||(Neg(Number|1) Number|2)))"},
		{"{a: {b: {}}}", "Object(Pair(Ident|a Object(Pair(Ident|b Object))))"},
		{"{a: (1, 2)}", "Object(Pair(Ident|a Paren(Bin|,(Number|1 Number|2))))"},
		{"{a: if 1 then 2 end}", "Object(Pair(Ident|a If(Number|1 Number|2)))"},
		{"{a: reduce . as $x (1; 2) | 3}", "Object(Pair(Ident|a Bin||(Reduce(Root Value|x Number|1 Number|2) Number|3)))"},
		{"{a: f(1, 2)}", "Object(Pair(Ident|a Call|f(Bin|,(Number|1 Number|2))))"},
	})
}

func TestWordsOfTheLanguage(t *testing.T) {
	checkGood(t, []good{
		{"if 1 then 2 end", "If(Number|1 Number|2)"},
		{"if 1 then 2 else 3 end", "If|else(Number|1 Number|2 Number|3)"},
		{"if 1 then 2 elif 3 then 4 end", "If(Number|1 Number|2 Number|3 Number|4)"},
		{"if 1 then 2 elif 3 then 4 elif 5 then 6 else 7 end", "If|else(Number|1 Number|2 Number|3 Number|4 Number|5 Number|6 Number|7)"},
		{"if 1, 2 then 3 | 4 else 5, 6 end", "If|else(Bin|,(Number|1 Number|2) Bin||(Number|3 Number|4) Bin|,(Number|5 Number|6))"},
		{"if 1 then if 2 then 3 else 4 end end", "If(Number|1 If|else(Number|2 Number|3 Number|4))"},
		{"if 1 then if 2 then 3 end else 4 end", "If|else(Number|1 If(Number|2 Number|3) Number|4)"},
		{"try 1", "Try(Number|1)"},
		{"try 1 catch 2", "Try(Number|1 Number|2)"},
		{"try .a? catch .b.c", "Try(Opt(Name|a) Dot|c(Name|b))"},
		{"try 1 + 2", "Bin|+(Try(Number|1) Number|2)"},
		{"try 1 catch 2 | 3", "Bin||(Try(Number|1 Number|2) Number|3)"},
		{"1 + try 2 * 3", "Bin|+(Number|1 Bin|*(Try(Number|2) Number|3))"},
		{"-try 1", "Neg(Try(Number|1))"},
		{"reduce . as $x (1; 2)", "Reduce(Root Value|x Number|1 Number|2)"},
		{"reduce .a[] as [$x] (1, 2; 3 | 4)", "Reduce(Iter(Name|a) List(Value|x) Bin|,(Number|1 Number|2) Bin||(Number|3 Number|4))"},
		{"reduce reduce 1 as $x (2; 3) as $y (4; 5)", "Reduce(Reduce(Number|1 Value|x Number|2 Number|3) Value|y Number|4 Number|5)"},
		{"foreach . as $x (1; 2)", "Each(Root Value|x Number|1 Number|2)"},
		{"foreach . as $x (1; 2; 3)", "Each(Root Value|x Number|1 Number|2 Number|3)"},
		{"foreach f(1) as {a: $x} (1; 2; 3, 4)", "Each(Call|f(Number|1) Keys(KeyPat(Ident|a Value|x)) Number|1 Number|2 Bin|,(Number|3 Number|4))"},
		{"label $a | 1", "Label|a(Number|1)"},
		{"label $a | 1, break $a | 2", "Label|a(Bin||(Bin|,(Number|1 Break|a) Number|2))"},
		{"1 + label $a | 2 | 3", "Bin|+(Number|1 Label|a(Bin||(Number|2 Number|3)))"},
		{"1 as $x | 2", "As(Number|1 Value|x Number|2)"},
		{"1 as $x | 2 as $y | 3, 4", "As(Number|1 Value|x As(Number|2 Value|y Bin|,(Number|3 Number|4)))"},
		{"1 + .a[] as $x | 2, 3", "Bin|+(Number|1 As(Iter(Name|a) Value|x Bin|,(Number|2 Number|3)))"},
		{"-1 as $x | 2 + 3", "Neg(As(Number|1 Value|x Bin|+(Number|2 Number|3)))"},
		{"1 == 2 as $x | 3 == 4", "Bin|==(Number|1 As(Number|2 Value|x Bin|==(Number|3 Number|4)))"},
	})
}

func TestDefinitions(t *testing.T) {
	checkGood(t, []good{
		{"def f: 1; 2", "Def|f(Number|1 Number|2)"},
		{"def f(g): 1; 2", "Def|f(Param|g Number|1 Number|2)"},
		{"def f($a; g; $b::c): 1, 2; 3 | 4", "Def|f(Param|$a Param|g Param|$b::c Bin|,(Number|1 Number|2) Bin||(Number|3 Number|4))"},
		{"def f: 1; def g: 2; 3", "Def|f(Number|1 Def|g(Number|2 Number|3))"},
		{"def f: def g: 1; 2; 3", "Def|f(Def|g(Number|1 Number|2) Number|3)"},
		{"1 | def f: 2; 3, 4", "Bin||(Number|1 Def|f(Number|2 Bin|,(Number|3 Number|4)))"},
		{"1 + def f: 2; 3 | 4", "Bin|+(Number|1 Def|f(Number|2 Bin||(Number|3 Number|4)))"},
		{"-def f: 2; 3 + 4", "Neg(Def|f(Number|2 Bin|+(Number|3 Number|4)))"},
		{"1 == def f: 2; 3 == 4", "Bin|==(Number|1 Def|f(Number|2 Bin|==(Number|3 Number|4)))"},
		{"def f: 1;", "Def|f(Number|1 None)"},
		{"def f(g; $h): 1; # x", "Def|f(Param|g Param|$h Number|1 None)"},
		{"def f: 1; def g: 2;", "Def|f(Number|1 Def|g(Number|2 None))"},
		{"def f: 1; def g: 2; def h: 3;", "Def|f(Number|1 Def|g(Number|2 Def|h(Number|3 None)))"},
		{"def f: 1; def g: 2; 3 as $x | 4", "Def|f(Number|1 Def|g(Number|2 As(Number|3 Value|x Number|4)))"},
	})
}

func TestPatterns(t *testing.T) {
	for _, c := range []good{
		{"$x", "Value|x"},
		{"$a::b", "Value|a::b"},
		{"[$x]", "List(Value|x)"},
		{"[$x, [$y], {a: $z}]", "List(Value|x List(Value|y) Keys(KeyPat(Ident|a Value|z)))"},
		{"{$x}", "Keys(KeyPat(Value|x))"},
		{"{$x: $y}", "Keys(KeyPat(Value|x Value|y))"},
		{"{$x: [$y], $z}", "Keys(KeyPat(Value|x List(Value|y)) KeyPat(Value|z))"},
		{"{a: $x, if: $y, a::b: $z}", "Keys(KeyPat(Ident|a Value|x) KeyPat(Ident|if Value|y) KeyPat(Ident|a::b Value|z))"},
		{`{"a": $x}`, "Keys(KeyPat(String(Chunk|a) Value|x))"},
		{`{@json "a\(1)": $x}`, "Keys(KeyPat(String|@json(Chunk|a Number|1) Value|x))"},
		{"{(1, 2): $x}", "Keys(KeyPat(KeyExp(Bin|,(Number|1 Number|2)) Value|x))"},
		{"{a: {b: {$c}}}", "Keys(KeyPat(Ident|a Keys(KeyPat(Ident|b Keys(KeyPat(Value|c))))))"},
	} {
		checkGood(t, []good{
			{". as " + c.s + " | 1", "As(Root " + c.want + " Number|1)"},
			{"reduce . as " + c.s + " (1; 2)", "Reduce(Root " + c.want + " Number|1 Number|2)"},
			{"foreach . as " + c.s + " (1; 2; 3)", "Each(Root " + c.want + " Number|1 Number|2 Number|3)"},
		})
	}
}

func TestModules(t *testing.T) {
	checkGood(t, []good{
		{`include "a";`, "Module(Bring|include(String(Chunk|a)) None)"},
		{`include "";`, "Module(Bring|include(String) None)"},
		{`import "a" as b;`, "Module(Bring|import(String(Chunk|a) Ident|b) None)"},
		{`import "a/b" as $b;`, "Module(Bring|import(String(Chunk|a/b) Value|b) None)"},
		{`import "a" as $b::c;`, "Module(Bring|import(String(Chunk|a) Value|b::c) None)"},
		{`include "a"; 1 | 2`, "Module(Bring|include(String(Chunk|a)) Bin||(Number|1 Number|2))"},
		{`include "a"; def f: 1;`, "Module(Bring|include(String(Chunk|a)) Def|f(Number|1 None))"},
		{`include "a"; def f: 1; 2`, "Module(Bring|include(String(Chunk|a)) Def|f(Number|1 Number|2))"},
		{`import "a" as b; include "c"; import "d" as $e; b::f`, "Module(Bring|import(String(Chunk|a) Ident|b) Bring|include(String(Chunk|c)) Bring|import(String(Chunk|d) Value|e) Call|b::f)"},
		{`import "a" as b; import "a" as b;`, "Module(Bring|import(String(Chunk|a) Ident|b) Bring|import(String(Chunk|a) Ident|b) None)"},
	})
}

func TestMinus(t *testing.T) {
	checkGood(t, []good{
		{"-1", "Neg(Number|1)"},
		{"--1", "Neg(Neg(Number|1))"},
		{"-1 + 2", "Bin|+(Neg(Number|1) Number|2)"},
		{"-1 * 2", "Neg(Bin|*(Number|1 Number|2))"},
		{"-1 * 2 / 3 - 4", "Bin|-(Neg(Bin|/(Bin|*(Number|1 Number|2) Number|3)) Number|4)"},
		{"1 * -2 * 3", "Bin|*(Number|1 Neg(Bin|*(Number|2 Number|3)))"},
		{"1 * -2 + 3", "Bin|+(Bin|*(Number|1 Neg(Number|2)) Number|3)"},
		{"1 - -2", "Bin|-(Number|1 Neg(Number|2))"},
		{"1 == -2 | 3", "Bin||(Bin|==(Number|1 Neg(Number|2)) Number|3)"},
		{"-.a[1]", "Neg(Index(Name|a Number|1))"},
		{"[-1, 2]", "Array(Bin|,(Neg(Number|1) Number|2))"},
	})
}

// joined is what the table of layer 6 tells of `1 x 2 y 3`; nothing, where no program is that.
func joined(x, y string) string {
	fromLeft := "Bin|" + y + "(Bin|" + x + "(Number|1 Number|2) Number|3)"
	fromRight := "Bin|" + x + "(Number|1 Bin|" + y + "(Number|2 Number|3))"
	a, b := prec.Level(x), prec.Level(y)
	switch {
	case a > b, a == b && prec.Side(x) == 1:
		return fromLeft
	case a < b, prec.Side(x) == 2:
		return fromRight
	}
	return ""
}

func TestEachTwoOperators(t *testing.T) {
	for _, x := range prec.Opers() {
		for _, y := range prec.Opers() {
			s := "1 " + x + " 2 " + y + " 3"
			want := joined(x, y)
			if want != "" {
				checkGood(t, []good{{s, want}})
				continue
			}
			checkBad(t, []bad{{s, api.ErrForm, len("1 " + x + " 2 ")}})
		}
	}
}

func TestRowsOfOperators(t *testing.T) {
	checkGood(t, []good{
		{"1 - 2 - 3", "Bin|-(Bin|-(Number|1 Number|2) Number|3)"},
		{"1 | 2 | 3 | 4", "Bin||(Number|1 Bin||(Number|2 Bin||(Number|3 Number|4)))"},
		{"1, 2, 3, 4", "Bin|,(Bin|,(Bin|,(Number|1 Number|2) Number|3) Number|4)"},
		{"1 // 2 // 3", "Bin|//(Number|1 Bin|//(Number|2 Number|3))"},
		{"1 // 2, 3 // 4", "Bin|,(Bin|//(Number|1 Number|2) Bin|//(Number|3 Number|4))"},
		{"1 // 2 = 3", "Bin|//(Number|1 Bin|=(Number|2 Number|3))"},
		{"1 = 2 // 3", "Bin|//(Bin|=(Number|1 Number|2) Number|3)"},
		{"1 = 2 // 3 = 4", "Bin|//(Bin|=(Number|1 Number|2) Bin|=(Number|3 Number|4))"},
		{"1 == 2 and 3 == 4", "Bin|and(Bin|==(Number|1 Number|2) Bin|==(Number|3 Number|4))"},
		{"1 = 2 == 3", "Bin|=(Number|1 Bin|==(Number|2 Number|3))"},
		{"1 == 2 = 3 == 4", "Bin|=(Bin|==(Number|1 Number|2) Bin|==(Number|3 Number|4))"},
		{"1 or 2 and 3 or 4", "Bin|or(Bin|or(Number|1 Bin|and(Number|2 Number|3)) Number|4)"},
		{"1 + 2 * 3 - 4", "Bin|-(Bin|+(Number|1 Bin|*(Number|2 Number|3)) Number|4)"},
		{"1 | 2, 3 // 4 = 5 or 6 and 7 < 8 + 9 * 10", "Bin||(Number|1 Bin|,(Number|2 Bin|//(Number|3 Bin|=(Number|4 Bin|or(Number|5 Bin|and(Number|6 Bin|<(Number|7 Bin|+(Number|8 Bin|*(Number|9 Number|10)))))))))"},
		{"10 * 9 + 8 < 7 and 6 or 5 = 4 // 3, 2 | 1", "Bin||(Bin|,(Bin|//(Bin|=(Bin|or(Bin|and(Bin|<(Bin|+(Bin|*(Number|10 Number|9) Number|8) Number|7) Number|6) Number|5) Number|4) Number|3) Number|2) Number|1)"},
		{"(1 == 2) == 3", "Bin|==(Paren(Bin|==(Number|1 Number|2)) Number|3)"},
		{"1 == (2 == 3)", "Bin|==(Number|1 Paren(Bin|==(Number|2 Number|3)))"},
		{"[1 == 2] == {a: 3}", "Bin|==(Array(Bin|==(Number|1 Number|2)) Object(Pair(Ident|a Number|3)))"},
	})
}

// A tree lies as deep as its source asks for, and a row is as long.
func TestLongSources(t *testing.T) {
	many := api.MaxSource/2 - 1
	for _, c := range []struct{ name, s string }{
		{"minus", strings.Repeat("-", api.MaxSource-1) + "1"},
		{"from the right", strings.Repeat("1|", many) + "1"},
		{"from the left", strings.Repeat("1,", many) + "1"},
		{"marks", "1" + strings.Repeat("?", api.MaxSource-1)},
		{"commas in brackets", "[" + strings.Repeat("1,", many-1) + "1]"},
		{"pairs", "{" + strings.Repeat("a,", many-1) + "a}"},
		{"semicolons", "f(" + strings.Repeat("1;", many-2) + "1)"},
		{"definitions", strings.Repeat("def f:1;", api.MaxSource/8)},
		{"definitions one in the other", strings.Repeat("def f:", api.MaxSource/10) + "1;" + strings.Repeat("1;", api.MaxSource/10-1) + "1"},
		{"conditions", strings.Repeat("if ", api.MaxSource/14) + "1" + strings.Repeat(" then 1 end", api.MaxSource/14)},
		{"choices", "if 1 then 1" + strings.Repeat(" elif 1 then 1", api.MaxSource/14-2) + " end"},
		{"names", strings.Repeat("1 as$x|", api.MaxSource/7-1) + "1"},
		{"labels", strings.Repeat("label$x|", api.MaxSource/8-1) + "1"},
		{"folds", strings.Repeat("reduce ", api.MaxSource/18) + "1" + strings.Repeat(" as$x(1;1)", api.MaxSource/18)},
		{"pieces", `"` + strings.Repeat(`\(1)a`, api.MaxSource/5-1) + `"`},
		{"bring", strings.Repeat(`include"";`, api.MaxSource/10)},
		{"a long name", strings.Repeat("a", api.MaxSource)},
	} {
		if _, err, at := Source(c.s); err != api.OK || at != 0 {
			t.Errorf("%s: %d at %d", c.name, err, at)
		}
	}
}
