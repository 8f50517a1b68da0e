// Package utf is layer 1: see shared/doc/01-utf.md.
package utf

import (
	"iter"
	"strings"
	"unicode/utf8"
)

// replacement is the rune fffd as it is spelt.
const replacement = "\xef\xbf\xbd"

// Check is where bytes are no UTF-8; below 0: nowhere.
func Check(s string) int {
	for at, r := range s {
		// A range tells fffd of a byte that begins no rune, but also of fffd itself, which is one.
		if r == utf8.RuneError && !strings.HasPrefix(s[at:], replacement) {
			return at
		}
	}
	return -1
}

// Wide is how many runes a text has; a byte that is of none counts as one.
func Wide(s string) int {
	n := 0
	for range s {
		n++
	}
	return n
}

// Lines are the texts between a text's line feeds.
func Lines(s string) []string {
	var out []string
	for _, l := range lines(s) {
		// A piece of s would share its memory, and keep all of it.
		out = append(out, strings.Clone(s[l.from:l.to]))
	}
	return out
}

// Place is the line and the column of a byte, or of the end.
func Place(s string, at int) (int, int, bool) {
	if at < 0 {
		return 0, 0, false
	}
	for n, l := range lines(s) {
		if at <= l.to {
			return n, at - l.from, true
		}
	}
	return 0, 0, false
}

// Offset is the way back from a line and a column.
func Offset(s string, line, col int) (int, bool) {
	for n, l := range lines(s) {
		if n == line {
			return l.offset(col)
		}
	}
	return 0, false
}

// span is where a line begins, and where its line feed, or the end, stands.
type span struct {
	from, to int
}

// offset holds col against the width first: a sum with any number might wrap round.
func (l span) offset(col int) (int, bool) {
	if col < 0 || col > l.to-l.from {
		return 0, false
	}
	return l.from + col, true
}

// lines tells each line's number and its span.
func lines(s string) iter.Seq2[int, span] {
	return func(yield func(int, span) bool) {
		from := 0
		for n := 0; ; n++ {
			wide := strings.IndexByte(s[from:], '\n')
			if wide < 0 {
				yield(n, span{from, len(s)})
				return
			}
			if !yield(n, span{from, from + wide}) {
				return
			}
			from += wide + 1
		}
	}
}
