package lex

import (
	"strings"

	"subeditor/api"
	"subeditor/sign"
)

// shape is how the tokens of a kind look: size is how many bytes the one at the front of a text has; 0: there is none.
type shape struct {
	kind int
	size func(s string) int
}

// outside are the shapes outside strings: of several that are there, the first one counts.
func outside() []shape {
	return []shape{
		{api.Space, row(sign.Blank)},
		{api.Note, note},
		{api.Word, sign.Word},
		{api.Field, marked(".", simple)},
		{api.Var, marked("$", sign.Word)},
		{api.Format, marked("@", row(letterOrDigit))},
		{api.Num, sign.Number},
		{api.Quote, just(`"`)},
		{api.Op, sign.Oper},
	}
}

// inside are the shapes in a string.
func inside() []shape {
	return []shape{
		{api.Piece, piece},
		{api.End, just(`"`)},
		{api.Open, just(`\(`)},
	}
}

// just is the size of one text.
func just(text string) func(s string) int {
	return func(s string) int {
		if !strings.HasPrefix(s, text) {
			return 0
		}
		return len(text)
	}
}

// marked is the size of a mark and what stands behind it: the mark alone is none.
func marked(mark string, size func(s string) int) func(s string) int {
	return func(s string) int {
		behind, is := strings.CutPrefix(s, mark)
		if !is {
			return 0
		}
		n := size(behind)
		if n == 0 {
			return 0
		}
		return len(mark) + n
	}
}

// row is the size of the longest row of such bytes.
func row(is func(c byte) bool) func(s string) int {
	return func(s string) int {
		n := 0
		for n < len(s) && is(s[n]) {
			n++
		}
		return n
	}
}

func letterOrDigit(c byte) bool {
	return sign.Letter(c) || sign.Digit(c)
}

// simple is how many bytes the simple name at the front of s has: a word is one up to its first `::`.
func simple(s string) int {
	name, _, _ := strings.Cut(s[:sign.Word(s)], ":")
	return len(name)
}

// note is how many bytes the note at the front of s has.
func note(s string) int {
	if !strings.HasPrefix(s, "#") {
		return 0
	}
	n := 0
	for {
		line := strings.IndexByte(s[n:], '\n')
		if line < 0 {
			return len(s)
		}
		n += line
		if !goesOn(s[:n]) {
			return n
		}
		n++
	}
}

// goesOn says whether a line feed behind s is with the note: two backslashes are one that is meant as such, and only one that is left over takes the line feed.
func goesOn(s string) bool {
	s = strings.TrimSuffix(s, "\r")
	slashes := len(s) - len(strings.TrimRight(s, `\`))
	return slashes%2 == 1
}

// piece is how many bytes the piece of a string at the front of s has.
func piece(s string) int {
	n := 0
	for {
		n += bare(s[n:])
		escape := sign.Escape(s[n:])
		if escape == 0 {
			return n
		}
		n += escape
	}
}

// bare is how many bytes at the front of s stand for themselves in a string.
func bare(s string) int {
	n := strings.IndexAny(s, `"\`)
	if n < 0 {
		return len(s)
	}
	return n
}
