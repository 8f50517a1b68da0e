package prec

import (
	"go/parser"
	"go/token"
	"os"
	"slices"
	"strings"
	"sync"
	"testing"
	"unsafe"

	"subeditor/api"
)

// rows are the chapter's table: the level, the side, the operators.
var rows = []struct {
	level, side int
	opers       string
}{
	{1, 2, "|"},
	{2, 1, ","},
	{3, 2, "//"},
	{4, 0, "= |= += -= *= /= %= //="},
	{5, 1, "or"},
	{6, 1, "and"},
	{7, 0, "== != < <= > >="},
	{8, 1, "+ -"},
	{9, 1, "* / %"},
}

const opersInOrder = "| , // = |= += -= *= /= %= //= or and == != < <= > >= + - * / %"

// told is all that is told of a text.
type told struct {
	level, side, left, right int
}

func tell(op string) told {
	return told{Level(op), Side(op), Left(op), Right(op)}
}

// byWords is what the chapter's words tell of a text.
func byWords(op string) told {
	for _, r := range rows {
		if slices.Contains(strings.Fields(r.opers), op) {
			w := told{r.level, r.side, r.level, r.level}
			if r.side == 0 || r.side == 2 {
				w.left++
			}
			if r.side == 0 || r.side == 1 {
				w.right++
			}
			return w
		}
	}
	return told{}
}

func TestEachOperator(t *testing.T) {
	for _, c := range []struct {
		op   string
		want told
	}{
		{"|", told{1, 2, 2, 1}},
		{",", told{2, 1, 2, 3}},
		{"//", told{3, 2, 4, 3}},
		{"=", told{4, 0, 5, 5}},
		{"|=", told{4, 0, 5, 5}},
		{"+=", told{4, 0, 5, 5}},
		{"-=", told{4, 0, 5, 5}},
		{"*=", told{4, 0, 5, 5}},
		{"/=", told{4, 0, 5, 5}},
		{"%=", told{4, 0, 5, 5}},
		{"//=", told{4, 0, 5, 5}},
		{"or", told{5, 1, 5, 6}},
		{"and", told{6, 1, 6, 7}},
		{"==", told{7, 0, 8, 8}},
		{"!=", told{7, 0, 8, 8}},
		{"<", told{7, 0, 8, 8}},
		{"<=", told{7, 0, 8, 8}},
		{">", told{7, 0, 8, 8}},
		{">=", told{7, 0, 8, 8}},
		{"+", told{8, 1, 8, 9}},
		{"-", told{8, 1, 8, 9}},
		{"*", told{9, 1, 9, 10}},
		{"/", told{9, 1, 9, 10}},
		{"%", told{9, 1, 9, 10}},
	} {
		if got := tell(c.op); got != c.want {
			t.Errorf("%q: %v, want %v", c.op, got, c.want)
		}
	}
}

func TestWhatIsNoOperatorHasNoughts(t *testing.T) {
	for _, s := range []string{
		"", " ", "x", "not", ".", "..", "?", "?//", "[", "]", "(", ")", "{", "}", ":", ";", "::", "!", "&", "&&", "||", "===", "=>", "=<", "<>",
		"++", "--", "**", "///", "////", "%%", "|==", "///=", "?//=", "as", "if", "def", "try", "reduce", "then",
		"Or", "OR", "And", "AND", "xor", "nor", "ora", "ands", "an", "o", "or or", "1", "$or", ".or", "@or", "or::and",
		" |", "| ", "or ", " or", "and\n", "\tand", "|\x00", "\x00", "\xff", "\u2212", "\u00d7", "\uff0b", "\u2264", "1 - 2", opersInOrder,
	} {
		if got := tell(s); got != (told{}) {
			t.Errorf("%q: %v, want noughts", s, got)
		}
	}
}

// short calls f with each text of at most n of the bytes.
func short(bytes string, n int, f func(string)) {
	f("")
	if n == 0 {
		return
	}
	for i := range len(bytes) {
		short(bytes, n-1, func(s string) { f(bytes[i:i+1] + s) })
	}
}

func TestShortTextsAgainstTheChaptersWords(t *testing.T) {
	check := func(s string) {
		if got, want := tell(s), byWords(s); got != want {
			t.Fatalf("%q: %v, want %v", s, got, want)
		}
	}
	for a := range 256 {
		check(string([]byte{byte(a)}))
	}
	short("|,/=+-*%!<>?.:", 3, check)
	short("andorANDOR ", 4, check)
}

func TestLeftAndRightDifferJustWhereASideIsTold(t *testing.T) {
	for _, op := range append(Opers(), "", "x", "not", "?//", "..") {
		if differ := Left(op) != Right(op); differ != (Side(op) != 0) {
			t.Errorf("%q: Left %d, Right %d, Side %d", op, Left(op), Right(op), Side(op))
		}
	}
}

// Of `a x b y c` one reading stands without brackets: that of the tighter one first, of the one that the side tells within a level, and none where no side is told.
func TestTwoOperatorsHaveOneReading(t *testing.T) {
	for _, x := range Opers() {
		for _, y := range Opers() {
			fromLeft := Level(x) >= Left(y)
			fromRight := Level(y) >= Right(x)
			wantLeft := Level(x) > Level(y) || Level(x) == Level(y) && Side(x) == 1
			wantRight := Level(x) < Level(y) || Level(x) == Level(y) && Side(x) == 2
			if fromLeft != wantLeft || fromRight != wantRight {
				t.Errorf("a %s b %s c: from the left %t, from the right %t", x, y, fromLeft, fromRight)
			}
		}
	}
}

func TestOpersAreAllInTheTablesOrder(t *testing.T) {
	got := Opers()
	if want := strings.Fields(opersInOrder); !slices.Equal(got, want) {
		t.Errorf("Opers = %q, want %q", got, want)
	}
	for i, op := range got {
		if Level(op) == 0 || i > 0 && Level(op) < Level(got[i-1]) {
			t.Errorf("%q at %d is of level %d", op, i, Level(op))
		}
	}
}

func TestOf(t *testing.T) {
	for _, op := range strings.Fields(opersInOrder) {
		for kind := -1; kind <= 99; kind++ {
			want := ""
			if kind == api.Op || kind == api.Word {
				want = op
			}
			if got := Of(api.Tok{Kind: kind, Text: op}); got != want {
				t.Errorf("Of a token of kind %d, %q = %q, want %q", kind, op, got, want)
			}
		}
	}
	for _, s := range []string{
		"", "x", "if", "not", "as", "Or", "AND", "or ", " and", "or::and", ".", "..", "?", "?//", "[", "]", "(", ")", "{", "}", ":", ";", "!", "===", "\xff",
	} {
		for kind := -1; kind <= 99; kind++ {
			if got := Of(api.Tok{Kind: kind, Text: s}); got != "" {
				t.Errorf("Of a token of kind %d, %q = %q", kind, s, got)
			}
		}
	}
	if got := Of(api.Tok{}); got != "" {
		t.Errorf("Of no token = %q", got)
	}
}

// shares says whether two texts have a byte of memory in common.
func shares(a, b string) bool {
	if a == "" || b == "" {
		return false
	}
	i, j := uintptr(unsafe.Pointer(unsafe.StringData(a))), uintptr(unsafe.Pointer(unsafe.StringData(b)))
	return i < j+uintptr(len(b)) && j < i+uintptr(len(a))
}

func TestAnswersAreNewMemory(t *testing.T) {
	first, again := Opers(), Opers()
	for i := range first {
		if shares(first[i], again[i]) {
			t.Errorf("Opers: %q is no new memory", first[i])
		}
	}
	clear(first)
	_ = append(first, "x")
	if got := strings.Join(again, " "); got != opersInOrder {
		t.Errorf("a list that came out before is now %q", got)
	}
	if got := strings.Join(Opers(), " "); got != opersInOrder {
		t.Errorf("Opers, once more, = %q", got)
	}
	for _, op := range again {
		a, b := api.Tok{Kind: api.Op, Text: strings.Clone(op)}, api.Tok{Kind: api.Word, Text: strings.Clone(op)}
		if shares(Of(a), a.Text) || shares(Of(b), b.Text) || shares(Of(a), Of(a)) {
			t.Errorf("Of %q is no new memory", op)
		}
	}
}

func TestLongTexts(t *testing.T) {
	for _, op := range Opers() {
		long := strings.Repeat(op, 1<<20)
		if got := tell(long); got != (told{}) {
			t.Errorf("%q, many times: %v", op, got)
		}
		if got := Of(api.Tok{Kind: api.Op, Text: long}); got != "" {
			t.Errorf("Of %q, many times: %d bytes", op, len(got))
		}
		// A piece of a longer text is told as if it stood alone.
		if got, want := tell(long[:len(op)]), byWords(op); got != want {
			t.Errorf("%q in a longer text: %v, want %v", op, got, want)
		}
	}
}

func TestManyCallsAtOnce(t *testing.T) {
	var all sync.WaitGroup
	for range 8 {
		all.Go(func() {
			for _, op := range Opers() {
				if got, want := tell(op), byWords(op); got != want {
					t.Errorf("%q: %v, want %v", op, got, want)
				}
			}
		})
	}
	all.Wait()
}

func TestItStandsOnApiAlone(t *testing.T) {
	files, err := os.ReadDir(".")
	if err != nil {
		t.Fatal(err)
	}
	for _, file := range files {
		if strings.HasSuffix(file.Name(), "_test.go") {
			continue
		}
		f, err := parser.ParseFile(token.NewFileSet(), file.Name(), nil, parser.ImportsOnly)
		if err != nil {
			t.Fatal(err)
		}
		for _, i := range f.Imports {
			if own := strings.HasPrefix(i.Path.Value, `"subeditor`); own && i.Path.Value != `"subeditor/api"` {
				t.Errorf("%s imports %s", file.Name(), i.Path.Value)
			}
		}
	}
}
