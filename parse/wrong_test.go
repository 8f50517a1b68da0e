package parse

import (
	"strings"
	"testing"

	"subeditor/api"
	"subeditor/sign"
)

// bad is a source, its error, and where it is.
type bad struct {
	s    string
	want api.Errno
	at   int
}

func checkBad(t *testing.T, cases []bad) {
	t.Helper()
	for _, c := range cases {
		n, err, at := Source(c.s)
		if err != c.want || at != c.at || n.Kind != 0 || n.Text != "" || n.Kids != nil {
			t.Errorf("Source(%.60q) = %s, %d, %d, want %d, %d", c.s, show(n), err, at, c.want, c.at)
		}
	}
}

// noForm checks sources in which a caret stands ahead of the first item with which no program goes on.
func noForm(t *testing.T, marked ...string) {
	t.Helper()
	for _, m := range marked {
		at := strings.Index(m, "^")
		checkBad(t, []bad{{m[:at] + m[at+1:], api.ErrForm, at}})
	}
}

func TestNothingIsNoProgram(t *testing.T) {
	noForm(t, "^", " ^", "# a^", " # a\n# b\n ^", "^)", "(^)", "[(^)]", "[^)", "{^)")
	if n, err, at := Program(nil); err != api.ErrForm || at != 0 || n.Kids != nil {
		t.Errorf("Program of nothing = %s, %d, %d", show(n), err, at)
	}
	if n, err, at := Program([]api.Item{}); err != api.ErrForm || at != 0 || n.Kids != nil {
		t.Errorf("Program of an empty list = %s, %d, %d", show(n), err, at)
	}
}

func TestNoTerm(t *testing.T) {
	noForm(t,
		"^|", "^,", "^//", "^=", "^==", "^+", "^*", "^?", "^?//", "^:", "^;", "^]", "^}", "^and 1", "^or 1", "^as $x", "^then", "^elif", "^else", "^end", "^catch 1", "^module {};",
		"1 |^", "1 | ^| 2", "1 , ^, 2", "1 + ^* 2", "1 or ^and 2", "1 + ^as", "1 | ^import \"a\" as b;", "1 | ^include \"a\";",
		"-^", "-^+ 1", "- -^", "1 -^",
	)
}

func TestWhatNeverGoesOn(t *testing.T) {
	noForm(t,
		"1 ^2", "1 ^a", "a ^1", "a ^b", "1 ^$a", "$a ^$b", "1 ^@json", "1 ^\"a\"", "\"a\" ^\"b\"", ".a ^a", ".a ^(1)", "1 ^(2)", "$a ^(1)", "1 ^{}", ". ^a", ".. ^\"a\"", "..^.. ", "1 ^..",
		"1 ^)", "1 ^]", "1 ^}", "(1) ^)", "1 ^;", "1 ^:", "1 ^then", "1 ^end", "1 ^else", "1 ^catch 2", "1 ^if", "1 ^def f: 1; 2", "1 ^?// 2", "1? ^?// 2", "1 ^import", "[] ^{}", "@json ^@json",
		"(1 ^]", "[1 ^)", "{a ^]", "f(1 ^]", "(1 ^;", "[1 ^;", "\"\\(1 ^;)\"",
	)
}

func TestDots(t *testing.T) {
	noForm(t,
		". .^", ".a .^", "1. .^", ". . ^a", ". . ^1", ". . ^| 1", ". . ^(1)", ". . ^.", ".a . ^.b", ". . ^?", ". . ^{}", ". . ^$a",
		".@json^", ".@json ^| 1", ".@json ^[1]", ". . @json^", ". . @json ^.a", ".a.@json ^@json",
		".\"a\" ^\"b\"", ".[^", ".[1^", ".[1 ^}", ".[1 ^;", ".[:^", ".[:^]", ".[:1^", ".[1:^", ".[1:2^", ".[1:2 ^:", ".[:1 ^:", ".[1:^:", ".[:^:", ".[^,", ".a.[:^]",
	)
}

func TestBrokenStrings(t *testing.T) {
	noForm(t,
		`"\(^)"`, `"\(1 ^2)"`, `"a\(1)\(^)"`, `"\(1,^)"`, `@json "\(^)"`, `"\([1^)"`, `"\(^])"`, `{"a\(^)"}`,
	)
}

func TestBrokenObjects(t *testing.T) {
	noForm(t,
		"{^", "{^,", "{a^", "{a ^b", "{a,^", "{a,^}", "{a,^,", "{^1}", "{^.a}", "{^[1]}", "{^:", "{a:^", "{a:^}", "{a:^,", "{a: 1^", "{a: 1 ^+ 2}", "{a: 1 ^// 2}", "{a: 1 ^and 2}", "{a: 1 ^= 2}",
		"{a: 1 ^as $x | 2}", "{a: ^def f: 1; 2}", "{a: ^label $x | 1}", "{a: ^try 1}", "{a: 1 |^", "{a: 1 | ^}", "{a: 1 | ^def f: 1; 2}", "{a: -^", "{a: -^}", "{a: -1 ^* 2}", "{a: 1 ^; 2}", "{a: 1 ^:",
		"{$a ^$b}", "{\"a\" ^\"b\"}", "{@json^", "{@json^}", "{@json ^: 1}", "{@json ^@text}", "{(^", "{(^)", "{(1^", "{(1)^", "{(1)^}", "{(1)^,", "{(1):^", "{(1):^}", "{(1) ^(2)",
		"{a^.b}", "{a ^(1)}", "{a: f ^1}",
	)
}

func TestBrokenWords(t *testing.T) {
	noForm(t,
		"if^", "if ^then", "if 1^", "if 1 ^end", "if 1 ^else", "if 1 then^", "if 1 then ^end", "if 1 then ^else", "if 1 then 2^", "if 1 then 2 ^then", "if 1 then 2 ^)",
		"if 1 then 2 elif^", "if 1 then 2 elif ^end", "if 1 then 2 elif 3 ^end", "if 1 then 2 elif 3 ^else", "if 1 then 2 else^", "if 1 then 2 else ^end", "if 1 then 2 else 3^", "if 1 then 2 else 3 ^else 4", "if 1 then 2 else 3 ^elif 4",
		"try^", "try ^catch 1", "try ^-1", "try ^try 1", "try ^def f: 1; 2", "try ^label $a | 1", "try 1 catch^", "try 1 catch ^-1", "try 1 catch 2 ^catch 3", "try 1 ^as $x | 2", "try 1 catch 2 ^as $x | 3",
		"reduce^", "reduce ^-1", "reduce ^try 1 as $x (1; 2)", "reduce ^def f: 1; 2", "reduce 1^", "reduce 1 ^+ 2", "reduce 1 ^($x", "reduce 1 as^", "reduce 1 as ^(", "reduce 1 as $x^", "reduce 1 as $x ^| 2", "reduce 1 as $x ^1", "reduce 1 as $x (^",
		"reduce 1 as $x (^)", "reduce 1 as $x (1^", "reduce 1 as $x (1^)", "reduce 1 as $x (1;^", "reduce 1 as $x (1;^)", "reduce 1 as $x (1; 2^", "reduce 1 as $x (1; 2^; 3)",
		"foreach^", "foreach 1 ^| 2", "foreach 1 as $x (1^)", "foreach 1 as $x (1; 2^", "foreach 1 as $x (1; 2;^", "foreach 1 as $x (1; 2;^)", "foreach 1 as $x (1; 2; 3^", "foreach 1 as $x (1; 2; 3^; 4)",
		"label^", "label ^a", "label $a^", "label $a ^1", "label $a ^, 1", "label $a |^", "break^", "break ^a", "break ^1", "break ^| 1", "break $a ^$b",
		"1 as^", "1 as ^x", "1 as $x^", "1 as $x ^, 2", "1 as $x ^$y", "1 as $x |^", "1 + 2 ^: 3", "-1 as $x ^2", "(1 as $x^)", "[1 as $x |^]",
		"f(^", "f(^)", "f(1^", "f(1;^", "f(1;^)", "f(^;", "f(1)^(2)", "f(1 ^:",
	)
}

func TestBrokenPatterns(t *testing.T) {
	for _, m := range []string{
		"^", "^a", "^.", "^1", "^\"a\"", "^@json", "[^", "[^]", "[^a", "[^1", "[$x^", "[$x,^", "[$x,^]", "[$x ^$y", "[$x ^: $y", "[$x ^}", "[[$x]^",
		"{^", "{^}", "{^1", "{^[", "{a^", "{a^}", "{a^,", "{a:^", "{a:^}", "{a:^b", "{a: $x^", "{a: $x ^| 1", "{a: $x,^", "{a: $x,^}", "{$x^", "{$x,^", "{$x,^}", "{$x:^", "{$x:^}", "{$x ^$y", "{$x: $y ^: $z",
		"{\"a\"^", "{\"a\"^}", "{\"a\"^,", "{\"a\":^1", "{@json^", "{@json ^: $x", "{(^", "{(^)", "{(1^", "{(1)^", "{(1)^}", "{(1):^", "{(1): ^.", "{if^}", "{a: [^]}", "$x ^as", "$x ^?// $y",
	} {
		noForm(t, ". as "+m, "reduce . as "+m, "foreach . as "+m)
	}
}

func TestBrokenDefinitions(t *testing.T) {
	noForm(t,
		"def^", "def ^1", "def ^$f", "def ^.f", "def ^:", "def ^a::b: 1; 2", "def f^", "def f ^1", "def f ^; 1", "def f:^", "def f: ^; 1", "def f: 1^", "def f: 1 ^)", "def f: 1 ^def", "def f: 1; ^| 2", "def f: 1; ^;", "def f: 1; 2 ^;", "def f: 1; ^)",
		"def f(^", "def f(^)", "def f(^): 1; 2", "def f(g^", "def f(g^, h): 1; 2", "def f(g ^h", "def f(g;^", "def f(g;^)", "def f(^.): 1; 2", "def f(^1): 1; 2", "def f(^if): 1; 2", "def f(^a::b): 1; 2", "def f(g)^", "def f(g) ^1", "def f(g)^(",
		"1 | def f: 1;^", "1 | def f: 1; # x^", "(def f: 1;^)", "[def f: 1;^]", "-def f: 1;^", "1 | def f: 1; def g: 2;^", "-def f: 1; def g: 2; def h: 3;^", "def f: 1; 2 | def g: 3; def h: 4;^", "1 as $x | def f: 1; def g: 2;^", "def f: def g: 1;^; 2", "def f: 1; 2 | def g: 3;^", "label $a | def f: 1;^", "1 as $x | def f: 1;^", "def f: 1; def g: 2; ^)", "def f: 1; ^import \"a\" as b;", "def f: 1; ^include \"a\";",
	)
	for _, w := range strings.Fields("and as break catch def elif else end foreach if import include label module or reduce then try") {
		if !sign.Key(w) {
			t.Errorf("%s is none of the language's words", w)
		}
		noForm(t, "def ^"+w+": 1; 2", "def f(^"+w+"): 1; 2", "def f(g; ^"+w+"): 1; 2", `import "a" as ^`+w+";")
	}
}

func TestBrokenModules(t *testing.T) {
	noForm(t,
		"import^", "import ^a", "import ^1", "import ^.", "import ^$a", `import ^@json "a" as b;`, `import "a"^`, `import "a"^;`, `import "a" ^b`, `import "a" as^`, `import "a" as ^1`, `import "a" as ^a::b;`, `import "a" as ^"b";`, `import "a" as ^;`,
		`import "a" as b^`, `import "a" as b ^1`, `import "a" as b ^{}; 1`, `import "a" as b ^"c";`, `import "a^\(1)" as b;`, `import "^\(1)" as b;`,
		"include^", "include ^a", `include ^@json "a";`, `include "a"^`, `include "a" ^as b;`, `include "a" ^{};`, `include "^\(1)";`, `include "a"; ^;`, `include "a"; ^| 1`, `include "a"; 1 ^include "b";`, `include "a"; ^module {};`,
		`include "a"; 1 |^`, `include "a"; def f: 1; ^include "b";`, `^as b;`, `(^import "a" as b;)`, `def f: ^import "a" as b; 1`,
	)
}

func TestOperatorsWithoutASide(t *testing.T) {
	checkBad(t, []bad{{"1 == 2 == 3", api.ErrForm, 7}})
	noForm(t,
		"1 == 2 ^!= 3", "1 < 2 ^< 3", "1 = 2 ^= 3", "1 |= 2 ^+= 3", "1 //= 2 ^= 3", "1 == 2 + 3 ^== 4", "1 = 2 or 3 ^= 4", "1 = 2 == 3 ^= 4", "1 = 2 == 3 ^== 4", "1 and 2 == 3 ^== 4", "1, 2 == 3 ^== 4",
		"1 == -2 ^== 3", "-1 == 2 ^== 3", "1 == try 2 ^== 3", "1 == 2? ^== 3", "(1 == 2 ^== 3)", "f(1 == 2 ^== 3)", "1 as $x | 2 == 3 ^== 4", "1 + 2 as $x | 3 == 4 ^== 5", "1 == 2 as $x | 3 == 4 ^== 5",
		"1 == def f: 2; 3 == 4 ^== 5", "1 = def f: 2; 3 = 4 ^= 5", "def f: 1 == 2 ^== 3; 4", "{(1 == 2 ^== 3): 4}", "1 == 2 ^==", "1 == 2 ^== |", "1 == 2 ^== ]",
	)
}

func TestFirstErrorOfASource(t *testing.T) {
	deep := strings.Repeat(`"\(`, api.MaxDepth) + "1" + strings.Repeat(`)"`, api.MaxDepth)
	checkBad(t, []bad{
		{strings.Repeat("1", api.MaxSource+1), api.ErrLong, 0},
		{strings.Repeat(")", api.MaxSource+1), api.ErrLong, 0},
		{strings.Repeat(" ", api.MaxSource), api.ErrForm, api.MaxSource},
		{") \xff", api.ErrUtf, 2},
		{"1 \xc3", api.ErrUtf, 2},
		{") ~", api.ErrSign, 2},
		{"1 2 $", api.ErrSign, 4},
		{`) "\q"`, api.ErrText, 3},
		{`) "`, api.ErrEnd, 3},
		{`) "\(1`, api.ErrEnd, 6},
		{strings.Repeat("(", api.MaxDepth+1) + " ~", api.ErrSign, api.MaxDepth + 2},
		{`"\(` + deep + `)"`, api.ErrDeep, 3*api.MaxDepth + 1},
		{" # a\n 1 # b\n 2 # c", api.ErrForm, 13},
		{" # a\n 1 | # b\n # c\n", api.ErrForm, 19},
		{"\u00e9", api.ErrSign, 0},
		{"# \u00e9\n)", api.ErrForm, 5},
		{"\"\u00e9\" )", api.ErrForm, 5},
	})
}
