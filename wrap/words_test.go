package wrap

import (
	"math/rand"
	"slices"
	"testing"

	"subeditor/api"
	"subeditor/bare"
	"subeditor/node"
	"subeditor/prec"
)

// What the chapter's words tell, rule by rule, with its names.

func needsByWords(n api.Node, least, follows int) bool {
	return n.Kind == 24 && prec.Level(n.Text) < least ||
		n.Kind == 25 && follows >= 9 ||
		(n.Kind == 26 || n.Kind == 27 || n.Kind == 29) && follows >= 1
}

func wByWords(x api.Node, least, follows int) api.Node {
	if needsByWords(x, least, follows) {
		return in(pByWords(x, 0))
	}
	return pByWords(x, follows)
}

func termByWords(x api.Node) api.Node {
	if slices.Contains([]int{24, 25, 26, 27, 29, 15}, x.Kind) {
		return in(pByWords(x, 0))
	}
	return pByWords(x, 0)
}

func pByWords(x api.Node, follows int) api.Node {
	out := of(x.Kind, x.Text)
	for i, k := range x.Kids {
		anyOther := wByWords(k, 1, 0)
		got := anyOther
		switch x.Kind {
		case 24:
			if len(x.Kids) == 2 && i == 0 {
				got = wByWords(k, prec.Left(x.Text), prec.Level(x.Text))
			} else if len(x.Kids) == 2 {
				got = wByWords(k, prec.Right(x.Text), follows)
			}
		case 25:
			if i == 0 {
				got = wByWords(k, 9, follows)
			}
		case 27:
			if i == 0 {
				got = wByWords(k, 1, follows)
			}
		case 26:
			if i == 0 {
				got = termByWords(k)
			} else if i == 2 {
				got = wByWords(k, 1, follows)
			}
		case 29:
			if i+1 == len(x.Kids) {
				got = wByWords(k, 1, follows)
			}
		case 15:
			got = termByWords(k)
		case 21, 22, 23, 20, 18, 19, 16, 17:
			if i == 0 {
				got = termByWords(k)
			}
		case 11:
			if i == 1 {
				got = valueByWords(k)
			}
		}
		out.Kids = append(out.Kids, got)
	}
	return out
}

func valueByWords(x api.Node) api.Node {
	if x.Kind == 24 && x.Text == "|" && len(x.Kids) == 2 {
		return of(24, "|", unitByWords(x.Kids[0]), valueByWords(x.Kids[1]))
	}
	return unitByWords(x)
}

func unitByWords(x api.Node) api.Node {
	if x.Kind == 25 && len(x.Kids) == 1 {
		return of(25, "", unitByWords(x.Kids[0]))
	}
	return termByWords(x)
}

func againstWords(t *testing.T, n api.Node) {
	t.Helper()
	got, want := Wrap(n), wByWords(bare.Bare(n), 1, 0)
	if !node.Same(got, want) {
		t.Fatalf("Wrap(%s) = %s, want %s", spelt(n), spelt(got), spelt(want))
	}
}

// rows calls f with each list of trees that have n nodes in all, of some Kinds and Texts.
func rows(n int, f func([]api.Node)) {
	if n == 0 {
		f(nil)
	}
	for first := 1; first <= n; first++ {
		small(first, func(k api.Node) {
			rows(n-first, func(l []api.Node) { f(append([]api.Node{k}, l...)) })
		})
	}
}

// heads are the nodes that small trees are made of: those that need brackets, and those that ask for them.
func heads() []api.Node {
	return []api.Node{
		of(api.Bin, "|"), of(api.Bin, "*"), of(api.Bin, "="), of(api.Bin, "x"), of(api.Neg, "x"), of(api.As, ""),
		of(api.Def, "f"), of(api.Label, "f"), of(api.Try, ""), of(api.Index, "."), of(api.Pair, ""), of(api.Paren, ""), of(api.Array, ""),
	}
}

func small(n int, f func(api.Node)) {
	rows(n-1, func(kids []api.Node) {
		for _, h := range heads() {
			f(of(h.Kind, h.Text, kids...))
		}
	})
}

func TestSmallTreesAgainstTheChaptersWords(t *testing.T) {
	for n := 1; n <= 4; n++ {
		small(n, func(x api.Node) { againstWords(t, x) })
	}
}

// chosen is a tree of n nodes by chance, of any Kind, and with any number of Kids.
func chosen(rng *rand.Rand, n int) api.Node {
	ops := operators()
	out := of(rng.Intn(40)-1, ops[rng.Intn(len(ops))])
	if l := heads(); rng.Intn(4) > 0 {
		out.Kind = l[rng.Intn(len(l))].Kind
	}
	for n--; n > 0; {
		size := 1 + rng.Intn(n)
		if rng.Intn(3) == 0 {
			size = n
		}
		out.Kids = append(out.Kids, chosen(rng, size))
		n -= size
	}
	return out
}

func TestTreesByChanceAgainstTheChaptersWords(t *testing.T) {
	rng := rand.New(rand.NewSource(10))
	for range 10000 {
		againstWords(t, chosen(rng, 1+rng.Intn(30)))
	}
}

func TestNeedsAgainstTheChaptersWords(t *testing.T) {
	rng := rand.New(rand.NewSource(11))
	for range 20000 {
		n, least, follows := chosen(rng, 1+rng.Intn(3)), rng.Intn(14)-2, rng.Intn(14)-2
		if got := Needs(n, least, follows); got != needsByWords(n, least, follows) {
			t.Fatalf("Needs(%s, %d, %d) is %t", spelt(n), least, follows, got)
		}
	}
}
