package utf

import (
	"math"
	"slices"
	"strings"
	"testing"
	"unsafe"
)

// spelt is a code point in so many bytes, whether or not RFC 3629 has it.
func spelt(r uint32, bytes int) string {
	lead := []byte{0, 0, 0xc0, 0xe0, 0xf0}[bytes]
	out := make([]byte, bytes)
	for i := bytes - 1; i > 0; i-- {
		out[i] = 0x80 | byte(r&0x3f)
		r >>= 6
	}
	out[0] = lead | byte(r)
	return string(out)
}

// least is how few bytes a code point may be spelt in.
func least(r uint32) int {
	switch {
	case r < 0x80:
		return 1
	case r < 0x800:
		return 2
	case r < 0x10000:
		return 3
	}
	return 4
}

// runeAt is how many bytes the rune at the front of s has, by the table of RFC 3629, section 4; 0: there is none.
func runeAt(s string) int {
	rows := []struct {
		n    int
		from [4]byte
		to   [4]byte
	}{
		{1, [4]byte{0x00}, [4]byte{0x7f}},
		{2, [4]byte{0xc2, 0x80}, [4]byte{0xdf, 0xbf}},
		{3, [4]byte{0xe0, 0xa0, 0x80}, [4]byte{0xe0, 0xbf, 0xbf}},
		{3, [4]byte{0xe1, 0x80, 0x80}, [4]byte{0xec, 0xbf, 0xbf}},
		{3, [4]byte{0xed, 0x80, 0x80}, [4]byte{0xed, 0x9f, 0xbf}},
		{3, [4]byte{0xee, 0x80, 0x80}, [4]byte{0xef, 0xbf, 0xbf}},
		{4, [4]byte{0xf0, 0x90, 0x80, 0x80}, [4]byte{0xf0, 0xbf, 0xbf, 0xbf}},
		{4, [4]byte{0xf1, 0x80, 0x80, 0x80}, [4]byte{0xf3, 0xbf, 0xbf, 0xbf}},
		{4, [4]byte{0xf4, 0x80, 0x80, 0x80}, [4]byte{0xf4, 0x8f, 0xbf, 0xbf}},
	}
	for _, row := range rows {
		fits := len(s) >= row.n
		for i := 0; fits && i < row.n; i++ {
			fits = s[i] >= row.from[i] && s[i] <= row.to[i]
		}
		if fits {
			return row.n
		}
	}
	return 0
}

func checkByTable(s string) int {
	for at := 0; at < len(s); {
		n := runeAt(s[at:])
		if n == 0 {
			return at
		}
		at += n
	}
	return -1
}

func wideByTable(s string) int {
	n := 0
	for at := 0; at < len(s); n++ {
		at += max(1, runeAt(s[at:]))
	}
	return n
}

// texts calls f with each text of at most n of the pieces.
func texts(pieces []string, n int, f func(string)) {
	var grow func(string, int)
	grow = func(s string, left int) {
		f(s)
		if left == 0 {
			return
		}
		for _, p := range pieces {
			grow(s+p, left-1)
		}
	}
	grow("", n)
}

func TestCheckTellsTheFirstWrongPlace(t *testing.T) {
	cases := []struct {
		name string
		s    string
		want int
	}{
		{"nothing", "", -1},
		{"one byte", "a", -1},
		{"the byte 00", "\x00", -1},
		{"the byte 7f", "\x7f", -1},
		{"one to four bytes", "a\u00e9\u20ac\U0001f600", -1},
		{"line feeds and 0d", "a\r\n\n\r", -1},
		{"the greatest of two bytes", "\xdf\xbf", -1},
		{"the least of three", "\xe0\xa0\x80", -1},
		{"just below d800", "\xed\x9f\xbf", -1},
		{"just above dfff", "\xee\x80\x80", -1},
		{"fffd itself", "\xef\xbf\xbd", -1},
		{"ffff", "\xef\xbf\xbf", -1},
		{"feff at the front", "\xef\xbb\xbfa", -1},
		{"the least of four", "\xf0\x90\x80\x80", -1},
		{"10ffff", "\xf4\x8f\xbf\xbf", -1},
		{"a lone byte behind one", "a\xff", 1},
		{"fe", "\xfe", 0},
		{"a byte that goes on alone", "\x80", 0},
		{"one that goes on too many", "\u00e9\x80", 2},
		{"two bytes, one of them there", "ab\xc3", 2},
		{"two bytes, then another sign", "\xc3a", 0},
		{"three bytes, two of them there", "\u20ac\xe2\x82", 3},
		{"four bytes, three of them there", "\xf0\x9f\x98", 0},
		{"three bytes broken off by a rune", "\xe2\x82\u00e9", 0},
		{"too long, two bytes", "\xc0\x80", 0},
		{"too long, two bytes, 7f", "\xc1\xbf", 0},
		{"too long, three bytes", "\xe0\x9f\xbf", 0},
		{"too long, four bytes", "\xf0\x8f\xbf\xbf", 0},
		{"d800", "\xed\xa0\x80", 0},
		{"dfff", "\xed\xbf\xbf", 0},
		{"a pair of d800 and dc00", "x\xed\xa0\x80\xed\xb0\x80", 1},
		{"above 10ffff", "\xf4\x90\x80\x80", 0},
		{"f5", "\xf5\x80\x80\x80", 0},
		{"five bytes", "\xf8\x88\x80\x80\x80", 0},
		{"fffd ahead of a wrong one", "\ufffd\ufffd\xffa", 6},
		{"the first of two", "a\xffb\xff", 1},
	}
	for _, c := range cases {
		if got := Check(c.s); got != c.want {
			t.Errorf("%s: Check(%q) = %d, want %d", c.name, c.s, got, c.want)
		}
	}
}

func TestWideCountsRunesAndStrayBytes(t *testing.T) {
	cases := []struct {
		s    string
		want int
	}{
		{"", 0},
		{"abc", 3},
		{"a\u00e9\u20ac\U0001f600", 4},
		{"a\r\n", 3},
		{"\ufffd", 1},
		{"e\u0301", 2},
		{"\xff", 1},
		{"a\xffb", 3},
		{"\x80\x80", 2},
		{"\xe2\x82", 2},
		{"\xf0\x9f\x98", 3},
		{"\xf0\x9f\x98a", 4},
		{"\xe2\x82\u00e9", 3},
		{"\xc0\x80", 2},
		{"\xe0\x9f\xbf", 3},
		{"\xed\xa0\x80", 3},
		{"\xf4\x90\x80\x80", 4},
	}
	for _, c := range cases {
		if got := Wide(c.s); got != c.want {
			t.Errorf("Wide(%q) = %d, want %d", c.s, got, c.want)
		}
	}
}

func TestEveryCodePointInEveryLength(t *testing.T) {
	for r := uint32(0); r < 0x200000; r++ {
		for n := least(r); n <= 4; n++ {
			s := spelt(r, n)
			check, wide := -1, 1
			if n != least(r) || r >= 0xd800 && r <= 0xdfff || r > 0x10ffff {
				check, wide = 0, n
			}
			if got := Check(s); got != check {
				t.Fatalf("Check(%q), %x in %d bytes: %d, want %d", s, r, n, got, check)
			}
			if got := Wide(s); got != wide {
				t.Fatalf("Wide(%q), %x in %d bytes: %d, want %d", s, r, n, got, wide)
			}
		}
	}
}

func TestBytesAtTheEdgesAgreeWithTheTable(t *testing.T) {
	var edges []string
	for _, b := range []byte{
		0x00, 0x0a, 0x7f, 0x80, 0x8f, 0x90, 0x9f, 0xa0, 0xbf, 0xc0, 0xc1, 0xc2, 0xdf, 0xe0, 0xe1,
		0xec, 0xed, 0xee, 0xef, 0xf0, 0xf1, 0xf3, 0xf4, 0xf5, 0xff,
	} {
		edges = append(edges, string([]byte{b}))
	}
	texts(edges, 4, func(s string) {
		if got, want := Check(s), checkByTable(s); got != want {
			t.Fatalf("Check(%q) = %d, want %d", s, got, want)
		}
		if got, want := Wide(s), wideByTable(s); got != want {
			t.Fatalf("Wide(%q) = %d, want %d", s, got, want)
		}
	})
}

func TestLinesStandBetweenLineFeeds(t *testing.T) {
	cases := []struct {
		s    string
		want []string
	}{
		{"", []string{""}},
		{"a", []string{"a"}},
		{"\n", []string{"", ""}},
		{"a\n", []string{"a", ""}},
		{"\na", []string{"", "a"}},
		{"ab\nc", []string{"ab", "c"}},
		{"a\n\nb", []string{"a", "", "b"}},
		{"a\r\nb\r", []string{"a\r", "b\r"}},
		{"a\rb", []string{"a\rb"}},
		{"a\vb\fc\u0085d\u2028e", []string{"a\vb\fc\u0085d\u2028e"}},
		{"\xff\n\xe2\x82\n", []string{"\xff", "\xe2\x82", ""}},
	}
	for _, c := range cases {
		if got := Lines(c.s); !slices.Equal(got, c.want) {
			t.Errorf("Lines(%q) = %q, want %q", c.s, got, c.want)
		}
	}
}

func TestLinesAreNewMemory(t *testing.T) {
	s := strings.Repeat("abc\n", 3) + "abc"
	one, two := Lines(s), Lines(s)
	one[0] = "other"
	if two[0] != "abc" || Lines(s)[0] != "abc" {
		t.Error("two answers share a list")
	}
	from := uintptr(unsafe.Pointer(unsafe.StringData(s)))
	for i, l := range two {
		at := uintptr(unsafe.Pointer(unsafe.StringData(l)))
		if at >= from && at < from+uintptr(len(s)) {
			t.Errorf("line %d lies in the memory of the text", i)
		}
	}
}

func TestPlaceOfBytesAndOfTheEnd(t *testing.T) {
	cases := []struct {
		s         string
		at        int
		line, col int
		ok        bool
	}{
		{"ab\nc", 0, 0, 0, true},
		{"ab\nc", 1, 0, 1, true},
		{"ab\nc", 2, 0, 2, true},
		{"ab\nc", 3, 1, 0, true},
		{"ab\nc", 4, 1, 1, true},
		{"ab\nc", 5, 0, 0, false},
		{"ab\nc", -1, 0, 0, false},
		{"ab\nc", math.MaxInt, 0, 0, false},
		{"ab\nc", math.MinInt, 0, 0, false},
		{"", 0, 0, 0, true},
		{"", 1, 0, 0, false},
		{"", -1, 0, 0, false},
		{"\n", 0, 0, 0, true},
		{"\n", 1, 1, 0, true},
		{"\n", 2, 0, 0, false},
		{"a\r\nb", 2, 0, 2, true},
		{"a\r\nb", 3, 1, 0, true},
		{"a\rb", 2, 0, 2, true},
		{"\u20acx\n\U0001f600y", 3, 0, 3, true},
		{"\u20acx\n\U0001f600y", 2, 0, 2, true},
		{"\u20acx\n\U0001f600y", 9, 1, 4, true},
		{"\xff\n\xff", 3, 1, 1, true},
	}
	for _, c := range cases {
		line, col, ok := Place(c.s, c.at)
		if line != c.line || col != c.col || ok != c.ok {
			t.Errorf("Place(%q, %d) = %d, %d, %t, want %d, %d, %t", c.s, c.at, line, col, ok, c.line, c.col, c.ok)
		}
	}
}

func TestOffsetOfLinesAndColumns(t *testing.T) {
	cases := []struct {
		s         string
		line, col int
		at        int
		ok        bool
	}{
		{"ab\nc", 0, 0, 0, true},
		{"ab\nc", 0, 2, 2, true},
		{"ab\nc", 0, 3, 0, false},
		{"ab\nc", 1, 0, 3, true},
		{"ab\nc", 1, 1, 4, true},
		{"ab\nc", 1, 2, 0, false},
		{"ab\nc", 2, 0, 0, false},
		{"ab\nc", -1, 0, 0, false},
		{"ab\nc", 0, -1, 0, false},
		{"ab\nc", 1, -1, 0, false},
		{"ab\nc", 1, math.MaxInt, 0, false},
		{"ab\nc", 1, math.MinInt, 0, false},
		{"ab\nc", math.MaxInt, 0, 0, false},
		{"ab\nc", math.MinInt, 0, 0, false},
		{"", 0, 0, 0, true},
		{"", 0, 1, 0, false},
		{"", 1, 0, 0, false},
		{"\n", 0, 0, 0, true},
		{"\n", 1, 0, 1, true},
		{"\n", 0, 1, 0, false},
		{"a\r\nb", 0, 2, 2, true},
		{"a\r\nb", 0, 3, 0, false},
		{"a\r\nb", 1, 1, 4, true},
		{"\u20ac\nx", 0, 1, 1, true},
		{"\u20ac\nx", 0, 4, 0, false},
		{"\u20ac\nx", 1, 1, 5, true},
	}
	for _, c := range cases {
		at, ok := Offset(c.s, c.line, c.col)
		if at != c.at || ok != c.ok {
			t.Errorf("Offset(%q, %d, %d) = %d, %t, want %d, %t", c.s, c.line, c.col, at, ok, c.at, c.ok)
		}
	}
}

// placeByCounting is Place by the chapter's words, byte by byte.
func placeByCounting(s string, at int) (int, int) {
	line, col := 0, 0
	for i := range at {
		col++
		if s[i] == '\n' {
			line, col = line+1, 0
		}
	}
	return line, col
}

func TestThereAndBack(t *testing.T) {
	type place struct{ line, col int }
	texts([]string{"a", "\n", "\r", "\u20ac", "\xff"}, 5, func(s string) {
		known := map[place]int{}
		for at := 0; at <= len(s); at++ {
			line, col := placeByCounting(s, at)
			known[place{line, col}] = at + 1
			if l, c, ok := Place(s, at); l != line || c != col || !ok {
				t.Fatalf("Place(%q, %d) = %d, %d, %t, want %d, %d, true", s, at, l, c, ok, line, col)
			}
		}
		for line := -1; line <= len(s)+1; line++ {
			for col := -1; col <= len(s)+1; col++ {
				want, is := 0, known[place{line, col}] > 0
				if is {
					want = known[place{line, col}] - 1
				}
				if at, ok := Offset(s, line, col); at != want || ok != is {
					t.Fatalf("Offset(%q, %d, %d) = %d, %t, want %d, %t", s, line, col, at, ok, want, is)
				}
			}
		}
	})
}

// Of promise T1: lines, with line feeds between, are the text again, and none has one.
func TestLinesLoseNoByte(t *testing.T) {
	texts([]string{"a", "\n", "\r", "\u20ac", "\xff"}, 6, func(s string) {
		l := Lines(s)
		if len(l) != strings.Count(s, "\n")+1 {
			t.Fatalf("Lines(%q): %d of them", s, len(l))
		}
		if strings.Join(l, "\n") != s {
			t.Fatalf("Lines(%q) = %q: not the text", s, l)
		}
	})
}

func TestLongTexts(t *testing.T) {
	const many = 1 << 16
	s := strings.Repeat("\u20ac\n", many)
	if Check(s) != -1 || Check(s+"\xff") != len(s) || Wide(s) != 2*many || len(Lines(s)) != many+1 {
		t.Error("runes and lines of a long text")
	}
	if line, col, ok := Place(s, len(s)); line != many || col != 0 || !ok {
		t.Errorf("its end: %d, %d, %t", line, col, ok)
	}
	if at, ok := Offset(s, many-1, 3); at != len(s)-1 || !ok {
		t.Errorf("its last line feed: %d, %t", at, ok)
	}
}
