package edit

import (
	"math"
	"slices"
	"strings"
	"testing"
	"unsafe"

	"subeditor/api"
)

// rightByWords is Right by the chapter's words, one condition behind the other.
func rightByWords(l []api.Edit, n int) bool {
	ok := len(l) <= 1000
	for i, e := range l {
		ok = ok && e.From >= 0
		ok = ok && e.To >= e.From
		ok = ok && e.To <= n
		if i > 0 {
			ok = ok && e.From >= l[i-1].To
			ok = ok && e.From > l[i-1].From
		}
	}
	return ok
}

// made is a text with edits made, byte by byte: the text, where each Text begins, and where each byte, and the end, stands.
func made(s string, l []api.Edit) (string, []int, []int) {
	out := ""
	begins := make([]int, len(l))
	places := make([]int, len(s)+1)
	for at := 0; at <= len(s); at++ {
		gone := -1
		for i, e := range l {
			if e.From == at {
				begins[i] = len(out)
				out += e.Text
			}
			if e.From <= at && at < e.To {
				gone = i
			}
		}
		places[at] = len(out)
		if gone >= 0 {
			places[at] = begins[gone]
		} else if at < len(s) {
			out += s[at : at+1]
		}
	}
	return out, begins, places
}

// lists calls f with each list of at most many edits whose places are from least to most.
func lists(least, most int, put []string, many int, f func([]api.Edit)) {
	var grow func([]api.Edit)
	grow = func(l []api.Edit) {
		f(l)
		if len(l) == many {
			return
		}
		for from := least; from <= most; from++ {
			for to := least; to <= most; to++ {
				for _, t := range put {
					grow(append(slices.Clone(l), api.Edit{From: from, To: to, Text: t}))
				}
			}
		}
	}
	grow(nil)
}

// ones are many edits, each in place of one byte.
func ones(many int, put string) []api.Edit {
	var l []api.Edit
	for i := range many {
		l = append(l, api.Edit{From: i, To: i + 1, Text: put})
	}
	return l
}

// within says whether a text lies in another one's memory.
func within(piece, s string) bool {
	if piece == "" || s == "" {
		return false
	}
	from := uintptr(unsafe.Pointer(unsafe.StringData(s)))
	at := uintptr(unsafe.Pointer(unsafe.StringData(piece)))
	return at >= from && at < from+uintptr(len(s))
}

func TestRightOfPlaces(t *testing.T) {
	cases := []struct {
		name string
		l    []api.Edit
		n    int
		want bool
	}{
		{"nil", nil, 0, true},
		{"none", []api.Edit{}, 3, true},
		{"none, of fewer than no bytes", nil, -1, true},
		{"one within", []api.Edit{{From: 1, To: 2}}, 3, true},
		{"all of it", []api.Edit{{From: 0, To: 3}}, 3, true},
		{"nothing, at the front", []api.Edit{{}}, 3, true},
		{"nothing, at the end", []api.Edit{{From: 3, To: 3}}, 3, true},
		{"nothing, of nothing", []api.Edit{{}}, 0, true},
		{"of fewer than no bytes", []api.Edit{{}}, -1, false},
		{"From below 0", []api.Edit{{From: -1, To: 1}}, 3, false},
		{"both below 0", []api.Edit{{From: -2, To: -1}}, 3, false},
		{"To below From", []api.Edit{{From: 2, To: 1}}, 3, false},
		{"To above the end", []api.Edit{{From: 2, To: 4}}, 3, false},
		{"both above the end", []api.Edit{{From: 4, To: 4}}, 3, false},
		{"two that touch", []api.Edit{{From: 0, To: 1}, {From: 1, To: 2}}, 2, true},
		{"two that overlap", []api.Edit{{From: 0, To: 2}, {From: 1, To: 3}}, 3, false},
		{"one within another", []api.Edit{{From: 0, To: 3}, {From: 1, To: 2}}, 3, false},
		{"two out of order", []api.Edit{{From: 2, To: 3}, {From: 0, To: 1}}, 3, false},
		{"two that put at one place", []api.Edit{{From: 1, To: 1}, {From: 1, To: 1}}, 3, false},
		{"one that puts ahead of one that takes", []api.Edit{{From: 1, To: 1}, {From: 1, To: 2}}, 3, false},
		{"one that takes ahead of one that puts", []api.Edit{{From: 1, To: 2}, {From: 2, To: 2}}, 3, true},
		{"the second one wrong", []api.Edit{{From: 0, To: 1}, {From: 2, To: 1}}, 3, false},
		{"the third one above the end", []api.Edit{{From: 0, To: 1}, {From: 1, To: 2}, {From: 2, To: 4}}, 3, false},
		{"the greatest places", []api.Edit{{From: math.MaxInt, To: math.MaxInt}}, math.MaxInt, true},
		{"the least From", []api.Edit{{From: math.MinInt, To: math.MaxInt}}, math.MaxInt, false},
		{"the least To", []api.Edit{{From: math.MaxInt, To: math.MinInt}}, math.MaxInt, false},
		{"1000", ones(1000, ""), 1000, true},
		{"1001", ones(1001, ""), 1001, false},
		{"1000 of a byte too few", ones(1000, ""), 999, false},
	}
	for _, c := range cases {
		if got := Right(c.l, c.n); got != c.want {
			t.Errorf("%s: Right(.., %d) = %t, want %t", c.name, c.n, got, c.want)
		}
	}
}

func TestRightAgreesWithItsWords(t *testing.T) {
	lists(-1, 3, []string{"x"}, 3, func(l []api.Edit) {
		for n := -1; n <= 3; n++ {
			if got, want := Right(l, n), rightByWords(l, n); got != want {
				t.Fatalf("Right(%v, %d) = %t, want %t", l, n, got, want)
			}
		}
	})
}

func TestApplyMakesEditsByThePlacesOfTheText(t *testing.T) {
	cases := []struct {
		s    string
		l    []api.Edit
		want string
	}{
		{"abc", []api.Edit{{From: 1, To: 2, Text: "xy"}}, "axyc"},
		{"abc", nil, "abc"},
		{"abc", []api.Edit{}, "abc"},
		{"", nil, ""},
		{"", []api.Edit{{Text: "x"}}, "x"},
		{"abc", []api.Edit{{From: 0, To: 3}}, ""},
		{"abc", []api.Edit{{From: 0, To: 0, Text: "x"}}, "xabc"},
		{"abc", []api.Edit{{From: 3, To: 3, Text: "x"}}, "abcx"},
		{"abc", []api.Edit{{From: 0, To: 1, Text: "xyz"}, {From: 2, To: 3, Text: "w"}}, "xyzbw"},
		{"abc", []api.Edit{{From: 0, To: 2}, {From: 2, To: 2, Text: "x"}}, "xc"},
		{"abc", []api.Edit{{From: 1, To: 2, Text: "b"}}, "abc"},
		{"\u20ac", []api.Edit{{From: 1, To: 2, Text: "x"}}, "\xe2x\xac"},
		{"a\nb\xff", []api.Edit{{From: 1, To: 2, Text: "\r\n"}}, "a\r\nb\xff"},
	}
	for _, c := range cases {
		if got, err := Apply(c.s, c.l); got != c.want || err != api.OK {
			t.Errorf("Apply(%q, %v) = %q, %d, want %q", c.s, c.l, got, err, c.want)
		}
	}
}

func TestWrongEditsAreToldByErrArgAlone(t *testing.T) {
	cases := []struct {
		s string
		l []api.Edit
	}{
		{"abc", []api.Edit{{From: 2, To: 1}}},
		{"abc", []api.Edit{{From: -1, To: 1}}},
		{"abc", []api.Edit{{From: 0, To: 4}}},
		{"", []api.Edit{{From: 0, To: 1, Text: "x"}}},
		{"abc", []api.Edit{{From: 0, To: 1, Text: "x"}, {From: 0, To: 2}}},
		{"abc", []api.Edit{{From: 1, To: 1, Text: "x"}, {From: 1, To: 1, Text: "y"}}},
		{"abc", []api.Edit{{From: math.MinInt, To: math.MaxInt}}},
		{strings.Repeat("a", 1001), ones(1001, "b")},
	}
	for _, c := range cases {
		if got, err := Apply(c.s, c.l); got != "" || err != api.ErrArg {
			t.Errorf("Apply(%q, %v) = %q, %d, want nothing and ErrArg", c.s, c.l, got, err)
		}
		if got, err := Back(c.s, c.l); len(got) != 0 || err != api.ErrArg {
			t.Errorf("Back(%q, %v) = %v, %d, want nothing and ErrArg", c.s, c.l, got, err)
		}
	}
}

func TestBackTellsWhatStoodThere(t *testing.T) {
	cases := []struct {
		s    string
		l    []api.Edit
		want []api.Edit
	}{
		{"abc", []api.Edit{{From: 1, To: 2, Text: "xy"}}, []api.Edit{{From: 1, To: 3, Text: "b"}}},
		{"abc", nil, nil},
		{"abc", []api.Edit{}, nil},
		{"", []api.Edit{{Text: "x"}}, []api.Edit{{From: 0, To: 1}}},
		{"abc", []api.Edit{{From: 0, To: 3}}, []api.Edit{{From: 0, To: 0, Text: "abc"}}},
		{"abc", []api.Edit{{From: 1, To: 1}}, []api.Edit{{From: 1, To: 1}}},
		{
			"abcd",
			[]api.Edit{{From: 0, To: 1, Text: "xyz"}, {From: 2, To: 4, Text: "w"}},
			[]api.Edit{{From: 0, To: 3, Text: "a"}, {From: 4, To: 5, Text: "cd"}},
		},
		{
			"abcd",
			[]api.Edit{{From: 0, To: 2}, {From: 3, To: 3, Text: "x"}},
			[]api.Edit{{From: 0, To: 0, Text: "ab"}, {From: 1, To: 2}},
		},
		// Two that touch, the first of which puts nothing: by the chapter's words both begin at one place.
		{
			"abcd",
			[]api.Edit{{From: 1, To: 2}, {From: 2, To: 3}},
			[]api.Edit{{From: 1, To: 1, Text: "b"}, {From: 1, To: 1, Text: "c"}},
		},
	}
	for _, c := range cases {
		if got, err := Back(c.s, c.l); !slices.Equal(got, c.want) || err != api.OK {
			t.Errorf("Back(%q, %v) = %v, %d, want %v", c.s, c.l, got, err, c.want)
		}
	}
}

func TestShiftOfBytes(t *testing.T) {
	l := []api.Edit{{From: 1, To: 3, Text: "vwxyz"}, {From: 4, To: 4, Text: "pq"}, {From: 6, To: 9, Text: "r"}}
	for at, want := range []int{0, 1, 1, 6, 9, 10, 11, 11, 11, 12, 13} {
		if got := Shift(l, at); got != want {
			t.Errorf("Shift(.., %d) = %d, want %d", at, got, want)
		}
	}
	cases := []struct {
		l    []api.Edit
		at   int
		want int
	}{
		{nil, 5, 5},
		{[]api.Edit{}, 0, 0},
		{nil, -3, -3},
		{nil, math.MaxInt, math.MaxInt},
		{nil, math.MinInt, math.MinInt},
		{[]api.Edit{{Text: "xy"}}, -1, -1},
		{[]api.Edit{{Text: "xy"}}, 0, 2},
		{[]api.Edit{{From: 0, To: 4}}, 3, 0},
		{[]api.Edit{{From: 0, To: 4}}, 4, 0},
		{[]api.Edit{{From: 0, To: 4}}, 1000000, 999996},
		{[]api.Edit{{From: 2, To: 4, Text: "xy"}}, 3, 2},
		{[]api.Edit{{From: 0, To: 2}, {From: 2, To: 4, Text: "x"}}, 3, 0},
		{ones(1000, "xy"), 999, 1998},
		{ones(1000, "xy"), 1000, 2000},
	}
	for _, c := range cases {
		if got := Shift(c.l, c.at); got != c.want {
			t.Errorf("Shift(%v, %d) = %d, want %d", c.l, c.at, got, c.want)
		}
	}
}

func TestShiftOfWrongEditsEnds(t *testing.T) {
	lists(-1, 2, []string{"", "x"}, 2, func(l []api.Edit) {
		for at := -1; at <= 3; at++ {
			Shift(l, at)
		}
	})
	wild := []api.Edit{{From: math.MinInt, To: math.MaxInt}, {From: math.MaxInt, To: math.MinInt, Text: "x"}}
	for _, at := range []int{math.MinInt, 0, math.MaxInt} {
		Shift(wild, at)
	}
	Shift(ones(5000, "x"), 4000)
}

func TestEditsAgreeWithMakingThemByteByByte(t *testing.T) {
	for _, s := range []string{"", "a", "abc", "a\nb\xff"} {
		lists(0, len(s), []string{"", "x", "yz"}, 2, func(l []api.Edit) {
			if !rightByWords(l, len(s)) {
				return
			}
			text, begins, places := made(s, l)
			if got, err := Apply(s, l); got != text || err != api.OK {
				t.Fatalf("Apply(%q, %v) = %q, %d, want %q", s, l, got, err, text)
			}
			var want []api.Edit
			for i, e := range l {
				want = append(want, api.Edit{From: begins[i], To: begins[i] + len(e.Text), Text: s[e.From:e.To]})
			}
			if got, err := Back(s, l); !slices.Equal(got, want) || err != api.OK {
				t.Fatalf("Back(%q, %v) = %v, %d, want %v", s, l, got, err, want)
			}
			for at, want := range places {
				if got := Shift(l, at); got != want {
					t.Fatalf("Shift(%v, %d) = %d, want %d", l, at, got, want)
				}
			}
		})
	}
}

// Of promise T1: what was made is undone, at once where the edits back are Right, and one by one from the last on always.
func TestWhatWasMadeIsUndone(t *testing.T) {
	lists(0, 3, []string{"", "x", "yz"}, 3, func(l []api.Edit) {
		const s = "abc"
		if !Right(l, len(s)) {
			return
		}
		text, _ := Apply(s, l)
		back, _ := Back(s, l)
		if Right(back, len(text)) {
			if got, err := Apply(text, back); got != s || err != api.OK {
				t.Fatalf("%v back by %v: %q, %d", l, back, got, err)
			}
			if again, err := Back(text, back); !slices.Equal(again, l) || err != api.OK {
				t.Fatalf("%v there, back, and there again: %v, %d", l, again, err)
			}
		}
		for _, e := range slices.Backward(back) {
			text, _ = Apply(text, []api.Edit{e})
		}
		if text != s {
			t.Fatalf("%v back by %v, one by one: %q", l, back, text)
		}
	})
}

func TestDiffIsTheLeastEdit(t *testing.T) {
	cases := []struct {
		a, b string
		want []api.Edit
	}{
		{"", "", nil},
		{"a", "a", nil},
		{"", "abc", []api.Edit{{From: 0, To: 0, Text: "abc"}}},
		{"abc", "", []api.Edit{{From: 0, To: 3}}},
		{"abc", "axyc", []api.Edit{{From: 1, To: 2, Text: "xy"}}},
		{"abc", "xyz", []api.Edit{{From: 0, To: 3, Text: "xyz"}}},
		{"ab", "abc", []api.Edit{{From: 2, To: 2, Text: "c"}}},
		{"abc", "bc", []api.Edit{{From: 0, To: 1}}},
		{"aa", "aaa", []api.Edit{{From: 2, To: 2, Text: "a"}}},
		{"aaa", "aa", []api.Edit{{From: 2, To: 3}}},
		{"abab", "ab", []api.Edit{{From: 2, To: 4}}},
		{"abcab", "abab", []api.Edit{{From: 2, To: 3}}},
		{"axbxc", "aybyc", []api.Edit{{From: 1, To: 4, Text: "yby"}}},
		{"\u20ac", "\u20ad", []api.Edit{{From: 2, To: 3, Text: "\xad"}}},
	}
	for _, c := range cases {
		if got := Diff(c.a, c.b); !slices.Equal(got, c.want) {
			t.Errorf("Diff(%q, %q) = %v, want %v", c.a, c.b, got, c.want)
		}
	}
}

// words are all texts of at most so many of the letters a and b.
func words(most int) []string {
	out := []string{""}
	for i := 0; i < len(out); i++ {
		if len(out[i]) < most {
			out = append(out, out[i]+"a", out[i]+"b")
		}
	}
	return out
}

// fewest is how many bytes one edit from a to b takes away and puts at least, by trying all.
func fewest(a, b string) int {
	least := len(a) + len(b)
	for from := range len(a) + 1 {
		for to := from; to <= len(a); to++ {
			puts := len(b) - from - (len(a) - to)
			if puts >= 0 && a[:from] == b[:from] && a[to:] == b[from+puts:] {
				least = min(least, to-from+puts)
			}
		}
	}
	return least
}

func TestDiffAgreesWithTryingAll(t *testing.T) {
	for _, a := range words(5) {
		for _, b := range words(5) {
			d := Diff(a, b)
			if a == b {
				if len(d) != 0 {
					t.Fatalf("Diff(%q, %q) = %v, want none", a, b, d)
				}
				continue
			}
			if len(d) != 1 {
				t.Fatalf("Diff(%q, %q) = %v, want one", a, b, d)
			}
			e := d[0]
			if got, err := Apply(a, d); got != b || err != api.OK {
				t.Fatalf("Diff(%q, %q) = %v: makes %q, %d", a, b, d, got, err)
			}
			if n := e.To - e.From + len(e.Text); n != fewest(a, b) {
				t.Fatalf("Diff(%q, %q) = %v: %d bytes, want %d", a, b, d, n, fewest(a, b))
			}
			if further := e.From + 1; further <= min(len(a), len(b)) && a[:further] == b[:further] {
				t.Fatalf("Diff(%q, %q) = %v: more of the front is in common", a, b, d)
			}
		}
	}
}

func TestAnswersAreNewMemory(t *testing.T) {
	s := strings.Repeat("abc", 3)
	put := strings.Repeat("xy", 3)
	if got, _ := Apply(s, nil); within(got, s) {
		t.Error("Apply without edits answers the text's own memory")
	}
	if got, _ := Apply("", []api.Edit{{Text: put}}); within(got, put) {
		t.Error("Apply to nothing answers the edit's own memory")
	}
	if got, _ := Apply(s, []api.Edit{{From: 0, To: 8}}); within(got, s) {
		t.Error("Apply that leaves an end answers a piece of the text")
	}
	back, _ := Back(s, []api.Edit{{From: 0, To: 3}, {From: 4, To: 9, Text: put}})
	for _, e := range back {
		if within(e.Text, s) {
			t.Error("Back answers a piece of the text")
		}
	}
	for _, d := range [][]api.Edit{Diff("", s), Diff("ab", s)} {
		if within(d[0].Text, s) {
			t.Error("Diff answers a piece of a text")
		}
	}
}

func TestWhatIsHandedInStays(t *testing.T) {
	all := []api.Edit{{From: 0, To: 1, Text: "x"}, {From: 2, To: 2, Text: "y"}, {From: 7, To: 5, Text: "behind"}}
	want := slices.Clone(all)
	l := all[:2]
	if got, err := Apply("abc", l); got != "xbyc" || err != api.OK {
		t.Errorf("Apply reads behind the list: %q, %d", got, err)
	}
	back, err := Back("abc", l)
	if len(back) != 2 || err != api.OK || !Right(l, 3) || Shift(l, 3) != 4 {
		t.Errorf("a call reads behind the list: %v, %d", back, err)
	}
	back[0] = api.Edit{From: 9}
	_ = append(back, api.Edit{From: 9})
	if !slices.Equal(all, want) {
		t.Errorf("what was handed in is now %v", all)
	}
	one, two := Diff("a", "b"), Diff("a", "b")
	one[0].From = 9
	if two[0].From != 0 {
		t.Error("two answers share a list")
	}
}

func TestLongTexts(t *testing.T) {
	s := strings.Repeat("a", 1<<20)
	l := ones(1000, "bc")
	got, err := Apply(s, l)
	if want := strings.Repeat("bc", 1000) + s[1000:]; got != want || err != api.OK {
		t.Errorf("1000 edits: %d bytes, %d", len(got), err)
	}
	back, _ := Back(s, l)
	if again, err := Apply(got, back); again != s || err != api.OK {
		t.Errorf("1000 edits back: %d bytes, %d", len(again), err)
	}
	if d := Diff(s+"b"+s, s+"c"+s); !slices.Equal(d, []api.Edit{{From: len(s), To: len(s) + 1, Text: "c"}}) {
		t.Error("the one byte that differs in a long text")
	}
}
