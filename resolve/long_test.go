package resolve_test

import (
	"slices"
	"strconv"
	"testing"

	"smithy/api"
	"smithy/resolve"
)

// grove makes trees node by node.
type grove struct {
	l []api.Node
}

func (g *grove) add(op int, s string, kids ...int) int {
	g.l = append(g.l, api.Node{Op: op, S: s, Pos: len(g.l), Kids: kids})
	return len(g.l) - 1
}

func (g *grove) name(s string) int {
	return g.add(api.NName, s)
}

// whole makes an expression the whole.
func (g *grove) whole(e int) []api.Node {
	g.add(api.NBlock, "", g.add(api.NExpr, "", e))
	return g.l
}

func resolved(t *testing.T, l []api.Node, given ...string) ([]resolve.Use, []resolve.Func) {
	t.Helper()
	uses, funcs, err := resolve.Resolve(l, given...)
	if err != nil {
		t.Fatal(err)
	}
	nodesFit(t, len(l), l, uses, funcs)
	return uses, funcs
}

// P8.1: Comps within one another as deep as trees are taken, each with a name of its own, or all with one.
func TestDeepItems(t *testing.T) {
	const deep = 1 << 16
	g := &grove{}
	row := []int{g.name("x"), g.name("outside"), g.name("n0"), g.name("n" + strconv.Itoa(deep-1))}
	for range 1 << 18 {
		row = append(row, g.name("outside"))
	}
	e := g.add(api.NList, "", row...)
	for i := range deep {
		target := g.add(api.NTuple, "", g.name("n"+strconv.Itoa(i)), g.name("x"))
		e = g.add(api.NComp, "", e, target, g.name("outside"))
	}
	uses, funcs := resolved(t, g.whole(e), "outside")
	if got := funcsText(funcs); got != "0/"+strconv.Itoa(2*deep) {
		t.Error(got)
	}
	for at, want := range []resolve.Use{{0, resolve.Local, 2*deep - 1}, {1, resolve.Predeclared, 0}, {2, resolve.Local, 2*deep - 2}, {3, resolve.Local, 0}} {
		if uses[at] != want {
			t.Error(uses[at], want)
		}
	}
	for at, use := range uses[4+1<<18:] {
		level := 2 * (deep - 1 - at/3)
		want := []resolve.Use{{use.Node, resolve.Local, level}, {use.Node, resolve.Local, level + 1}, {use.Node, resolve.Predeclared, 0}}[at%3]
		if use != want {
			t.Fatal(at, use, want)
		}
	}
}

// P8.1: Comps that go over one another, as deep as nodes are taken, have one slot, the same.
func TestDeepOvers(t *testing.T) {
	g := &grove{}
	e := g.name("x")
	for len(g.l) < 1<<20-6 {
		item, target := g.name("x"), g.name("x")
		e = g.add(api.NComp, "", item, target, e)
	}
	uses, funcs := resolved(t, g.whole(e), "x")
	if got := funcsText(funcs); got != "0/1" {
		t.Error(got)
	}
	for at, use := range uses {
		want := resolve.Use{Node: use.Node, Scope: resolve.Local}
		if at == 0 {
			want.Scope = resolve.Predeclared
		}
		if use != want {
			t.Fatal(at, use)
		}
	}
}

// P8.1: a Def with as many locals as nodes are taken, and a whole with as many globals.
func TestWide(t *testing.T) {
	const wide = 1 << 17
	g := &grove{}
	var kids, statements []int
	for i := range wide {
		kids = append(kids, g.add(api.NParam, "p"+strconv.Itoa(i)))
		statements = append(statements, g.add(api.NAssign, "", g.name("x"+strconv.Itoa(i%(wide/2))), g.name("p"+strconv.Itoa(wide-1-i))))
	}
	slices.Reverse(kids)
	def := g.add(api.NDef, "f", append(kids, g.add(api.NBlock, "", statements...))...)
	all := []int{def}
	for i := range wide / 2 {
		all = append(all, g.add(api.NAssign, "", g.name("p"+strconv.Itoa(i)), g.add(api.NNone, "")))
	}
	g.add(api.NBlock, "", all...)
	uses, funcs := resolved(t, g.l)
	if len(funcs[0].Names) != 1+wide/2 || funcs[1].Params != wide || funcs[1].Slots != wide*3/2 || len(funcs[1].Names) != wide*3/2 || funcs[1].Names[0] != "p"+strconv.Itoa(wide-1) {
		t.Error(funcs[1].Params, funcs[1].Slots)
	}
	for at, use := range uses {
		want := resolve.Use{Node: use.Node, Scope: resolve.Global, Slot: 1 + at - 2*wide}
		if at < 2*wide {
			want = resolve.Use{Node: use.Node, Scope: resolve.Local, Slot: []int{wide + at/2%(wide/2), at / 2}[at%2]}
		}
		if use != want {
			t.Fatal(at, use, want)
		}
	}
}
