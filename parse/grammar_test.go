package parse

import (
	"math/rand"
	"slices"
	"strconv"
	"strings"
	"testing"

	"subeditor/api"
	"subeditor/prec"
	"subeditor/sign"
)

// table is the chapter's table, without its nodes: a rule, and what it may be. What is neither a rule nor a class of tokens stands for itself, BAR for `|`.
const table = `
PROGRAM
	PIPE
	DEFS
	BRINGS
	BRINGS PIPE
	BRINGS DEFS
BRINGS
	BRING
	BRINGS BRING
BRING
	import PLAIN as NAME ;
	import PLAIN as VAR ;
	include PLAIN ;
PLAIN
	QUOTE END
	QUOTE PIECES END
PIECES
	PIECE
	PIECES PIECE
DEFS
	HEAD : PIPE ;
	HEAD : PIPE ; DEFS
HEAD
	def NAME
	def NAME ( PARAMS )
PARAMS
	PARAM
	PARAMS ; PARAM
PARAM
	NAME
	VAR
POST
	TERM
	POST FIELD
	POST . STRING
	POST [ ]
	POST [ WITHIN ]
	POST . [ ]
	POST . [ WITHIN ]
	POST ?
WITHIN
	PIPE
	PIPE :
	: PIPE
	PIPE : PIPE
TERM
	. STRING
	.
	..
	FIELD
	VAR
	NUM
	FORMAT
	STRING
	[ ]
	[ PIPE ]
	( PIPE )
	{ }
	{ PAIRS }
	if PIPE then PIPE end
	if PIPE then PIPE else PIPE end
	if PIPE then PIPE ELIFS end
	if PIPE then PIPE ELIFS else PIPE end
	reduce POST as PATTERN ( PIPE ; PIPE )
	foreach POST as PATTERN ( PIPE ; PIPE )
	foreach POST as PATTERN ( PIPE ; PIPE ; PIPE )
	break VAR
	CALLED
	CALLED ( PIPES )
ELIFS
	elif PIPE then PIPE
	ELIFS elif PIPE then PIPE
PIPES
	PIPE
	PIPES ; PIPE
STRING
	TEXT
	FORMAT TEXT
TEXT
	QUOTE END
	QUOTE PARTS END
PARTS
	PART
	PARTS PART
PART
	PIECE
	OPEN PIPE CLOSE
PAIRS
	PAIR
	PAIRS , PAIR
PAIR
	KEY
	KEY : VALUE
	( PIPE ) : VALUE
KEY
	WORD
	VAR
	STRING
VALUE
	UNIT
	UNIT BAR VALUE
UNIT
	- UNIT
	POST
PATTERN
	VAR
	[ PATTERNS ]
	{ KEYPATS }
PATTERNS
	PATTERN
	PATTERNS , PATTERN
KEYPATS
	KEYPAT
	KEYPATS , KEYPAT
KEYPAT
	VAR
	VAR : PATTERN
	WORD : PATTERN
	STRING : PATTERN
	( PIPE ) : PATTERN
`

// A symbol is a rule, or a class of tokens; a production is a rule, and one of the rows of symbols that it may be.
type production struct {
	rule int
	row  []int
}

type grammar struct {
	names map[string]int
	all   []production
	of    map[int][]int
	told  map[api.Tok][]int
}

func (g *grammar) symbol(name string) int {
	n, is := g.names[name]
	if !is {
		n = len(g.names)
		g.names[name] = n
	}
	return n
}

func (g *grammar) add(rule, row string) {
	p := production{rule: g.symbol(rule)}
	for _, name := range strings.Fields(row) {
		p.row = append(p.row, g.symbol(name))
	}
	g.of[p.rule] = append(g.of[p.rule], len(g.all))
	g.all = append(g.all, p)
}

// Behind an EXP of a level no operator of that level, or of a tighter one, may be next: it would have been taken. So each rule that may end with an EXP is there for each least level that may not be next behind it.
const free = 11

var leasts = []int{1, 2, 3, 4, 5, 6, 7, 8, 9, 10, free}

// ending is what a rule is called, if no level from barred on may be next behind it.
func ending(rule string, barred int) string {
	return rule + "-" + strconv.Itoa(barred)
}

// expRule is what EXP of a level is called; rowRule what may still be taken longer, up to one.
func expRule(least, barred int) string {
	return ending("EXP"+strconv.Itoa(least), barred)
}

func rowRule(least, barred int) string {
	return ending("ROW"+strconv.Itoa(least), barred)
}

// chapter is the grammar of the chapter's table.
func chapter() *grammar {
	g := &grammar{names: map[string]int{}, of: map[int][]int{}, told: map[api.Tok][]int{}}
	rule := ""
	for _, line := range strings.Split(strings.TrimSpace(table), "\n") {
		if row, is := strings.CutPrefix(line, "\t"); is {
			g.add(rule, row)
		} else {
			rule = line
		}
	}
	g.add("PIPE", expRule(1, 1))
	operand := ending("OPERAND", free)
	g.add(operand, "POST")
	g.add(operand, "try POST")
	g.add(operand, "try POST catch POST")
	operand = ending("OPERAND", 1)
	g.add(operand, "HEAD : PIPE ; PIPE")
	g.add(operand, "label VAR BAR PIPE")
	g.add(operand, "POST as PATTERN BAR PIPE")
	for _, barred := range leasts {
		if barred <= 9 {
			g.add(ending("OPERAND", barred), "- "+expRule(9, barred))
		}
		for least := 1; least <= 10; least++ {
			g.add(rowRule(least, barred), ending("OPERAND", barred))
			g.add(expRule(least, min(least, barred)), rowRule(least, barred))
			for level := least; level < min(barred, 10); level++ {
				g.join(least, barred, level)
			}
		}
	}
	return g
}

// join adds what an operator of a level joins to a row behind which none from barred on may be next.
func (g *grammar) join(least, barred, level int) {
	right, next := level+1, level+1
	switch level {
	case 1, 3:
		right = level
	case 4, 7:
		next = level
	}
	for _, last := range leasts[:right] {
		g.add(rowRule(least, min(next, last)), rowRule(least, barred)+" OPER"+strconv.Itoa(level)+" "+expRule(right, last))
	}
}

// classes are the symbols that a token is of.
func (g *grammar) classes(t api.Tok) []int {
	out, told := g.told[t]
	if told {
		return out
	}
	for name, symbol := range g.names {
		if isOf(t, name) {
			out = append(out, symbol)
		}
	}
	g.told[t] = out
	return out
}

// isOf says whether a token is of a class, or what a name that is none stands for.
func isOf(t api.Tok, name string) bool {
	kinds := map[string]int{
		"WORD": api.Word, "FIELD": api.Field, "VAR": api.Var, "NUM": api.Num, "QUOTE": api.Quote, "PIECE": api.Piece,
		"OPEN": api.Open, "CLOSE": api.Close, "END": api.End, "FORMAT": api.Format,
	}
	level, isLevel := strings.CutPrefix(name, "OPER")
	kind, isKind := kinds[name]
	switch {
	case isKind:
		return t.Kind == kind
	case name == "NAME":
		return t.Kind == api.Word && sign.Plain(t.Text)
	case name == "CALLED":
		return t.Kind == api.Word && !sign.Key(t.Text)
	case isLevel && len(level) == 1:
		return strconv.Itoa(prec.Level(prec.Of(t))) == level
	case name == "BAR":
		return t == tok(api.Op, "|")
	case name[0] >= 'a' && name[0] <= 'z':
		return t == tok(api.Word, name)
	}
	return t == tok(api.Op, name)
}

// place is one in a production, of what begins ahead of the token from. (After Earley, An efficient context-free parsing algorithm.)
type place struct{ production, at, from int }

// column are the places that may be reached behind some tokens; waits are those ahead of a symbol.
type column struct {
	all   []place
	known map[place]struct{}
	waits map[int][]place
}

// chart are the columns behind each of a program's first tokens.
type chart struct {
	g    *grammar
	cols []column
}

func begin(g *grammar) *chart {
	c := &chart{g: g}
	var first []place
	for _, p := range g.of[g.symbol("PROGRAM")] {
		first = append(first, place{production: p})
	}
	c.grow(first)
	return c
}

// grow adds the column of some places, and of all that follow from them.
func (c *chart) grow(first []place) {
	c.cols = append(c.cols, column{known: map[place]struct{}{}, waits: map[int][]place{}})
	here := len(c.cols) - 1
	col := &c.cols[here]
	add := func(p place) {
		if _, is := col.known[p]; !is {
			col.known[p] = struct{}{}
			col.all = append(col.all, p)
		}
	}
	for _, p := range first {
		add(p)
	}
	for i := 0; i < len(col.all); i++ {
		p := col.all[i]
		row := c.g.all[p.production].row
		if p.at == len(row) {
			for _, w := range c.cols[p.from].waits[c.g.all[p.production].rule] {
				add(place{w.production, w.at + 1, w.from})
			}
			continue
		}
		symbol := row[p.at]
		col.waits[symbol] = append(col.waits[symbol], p)
		for _, q := range c.g.of[symbol] {
			add(place{production: q, from: here})
		}
	}
}

// next are the places behind one more token; none, if no program goes on with it.
func (c *chart) next(t api.Tok) []place {
	var out []place
	for _, symbol := range c.g.classes(t) {
		for _, w := range c.cols[len(c.cols)-1].waits[symbol] {
			out = append(out, place{w.production, w.at + 1, w.from})
		}
	}
	return out
}

func (c *chart) shrink() {
	c.cols = c.cols[:len(c.cols)-1]
}

// ends says whether the tokens are a program.
func (c *chart) ends() bool {
	for _, p := range c.cols[len(c.cols)-1].all {
		x := c.g.all[p.production]
		if p.from == 0 && x.rule == c.g.symbol("PROGRAM") && p.at == len(x.row) {
			return true
		}
	}
	return false
}

// verdict is what the table tells of tokens: whether they are a program, and else where none goes on.
func (g *grammar) verdict(l []api.Tok) (bool, int) {
	c := begin(g)
	for i, t := range l {
		p := c.next(t)
		if len(p) == 0 {
			return false, i
		}
		c.grow(p)
	}
	return c.ends(), len(l)
}

// agrees holds Program against what the table tells of tokens.
func agrees(t *testing.T, l []api.Tok, is bool, at int) {
	t.Helper()
	n, err, place := Program(bare(l))
	switch {
	case is && (err != api.OK || place != 0):
		t.Errorf("Program of %q: %d at %d, want a tree", spelt(l), err, place)
	case is:
		holds(t, l, n)
	case err != api.ErrForm || place != at || n.Kind != 0 || n.Text != "" || n.Kids != nil:
		t.Errorf("Program of %q: %s, %d at %d, want ErrForm at %d", spelt(l), show(n), err, place, at)
	}
}

// alphabet are tokens of each class, and of none.
func alphabet() []api.Tok {
	l := []api.Tok{
		tok(api.Field, ".a"), tok(api.Var, "$a"), tok(api.Num, "1"), tok(api.Format, "@a"), tok(api.Quote, `"`), tok(api.Piece, "a"), tok(api.Open, `\(`), tok(api.Close, ")"), tok(api.End, `"`),
		tok(api.Word, "f"), tok(api.Word, "a::b"), tok(api.Op, "?//"),
	}
	for _, w := range strings.Fields("as break catch def elif else end foreach if import include label module or reduce then try") {
		l = append(l, tok(api.Word, w))
	}
	for _, o := range strings.Fields(". .. [ ] ( ) { } , : ; | - // = == + * ?") {
		l = append(l, tok(api.Op, o))
	}
	return l
}

// Each row of few tokens, and each token behind it.
func TestShortRowsAgainstTheTable(t *testing.T) {
	l := alphabet()
	for _, first := range l {
		t.Run(first.Text, func(t *testing.T) {
			t.Parallel()
			c := begin(chapter())
			var down func(row []api.Tok)
			down = func(row []api.Tok) {
				p := c.next(row[len(row)-1])
				if len(p) == 0 {
					agrees(t, row, false, len(row)-1)
					return
				}
				c.grow(p)
				agrees(t, row, c.ends(), len(row))
				if len(row) < 4 {
					for _, next := range l {
						down(append(row[:len(row):len(row)], next))
					}
				}
				c.shrink()
			}
			down([]api.Tok{first})
		})
	}
}

// Rows by chance, each of which goes on as long as one may.
func TestLongRowsAgainstTheTable(t *testing.T) {
	l := alphabet()
	for seed := range 8 {
		t.Run(strconv.Itoa(seed), func(t *testing.T) {
			t.Parallel()
			rng := rand.New(rand.NewSource(int64(seed)))
			g := chapter()
			for range 60 {
				c := begin(g)
				var row []api.Tok
				for range 30 {
					next := l[rng.Intn(len(l))]
					p := c.next(next)
					if len(p) == 0 {
						agrees(t, append(slices.Clone(row), next), false, len(row))
						continue
					}
					row = append(row, next)
					c.grow(p)
					agrees(t, row, c.ends(), len(row))
				}
			}
		})
	}
}

// programs have each rule of the table, some of them more than once.
var programs = []string{
	`import "a" as b; import "c" as $d; include "e"; def f: b::g; def h($i; j): $i | j; f, h(1; 2)`,
	`def f(g; $h): def i: g; i + $h; def j: f(.; 1); def k: 2;`,
	`if .a then 1 elif .b == 2 and $c then "x\(.d)y" else -1 * 2 end | try error("e") catch .`,
	`reduce .[] as [$a, {b: $c, $d, "e": [$f], (1 | 2): {$g: $h}}] (0; . + $a) | foreach .[1:2][:3][4:] as $x (1; 2; 3)`,
	`{a, $b, "c", @json "d\(1)", "e": 1, (2, 3): -4 | 5 | --6, f: {}, if: [], then: [1, 2]} | .a."b".["c"].[]?.d[0]?`,
	`label $out | .[] as $x | 1 = 2 or 3 == 4, 5 // 6 // 7 - 8 - 9 | break $out`,
	`. as {a: $b} | .. | ."c" | . . "d" | .@text "e" | @base64, @json "f" | 1 |= 2`,
	`def f: reduce g as $x (1; 2) as $y | 3; 1 as $z | -try f? + 4 as [$w] | {a: f(1; 2)[3]}`,
}

// Programs with one token that is taken away, put twice, put in place of another one, or put between two.
func TestChangedProgramsAgainstTheTable(t *testing.T) {
	l := alphabet()
	for _, s := range programs {
		t.Run(s, func(t *testing.T) {
			t.Parallel()
			g := chapter()
			row := tokens(t, s)
			check := func(l []api.Tok) {
				is, at := g.verdict(l)
				agrees(t, l, is, at)
			}
			check(row)
			rng := rand.New(rand.NewSource(int64(len(s))))
			for i := range row {
				next := l[rng.Intn(len(l))]
				check(row[:i])
				check(slices.Delete(slices.Clone(row), i, i+1))
				check(slices.Insert(slices.Clone(row), i, row[i]))
				check(slices.Insert(slices.Clone(row), i, next))
				check(slices.Replace(slices.Clone(row), i, i+1, next))
			}
		})
	}
}
