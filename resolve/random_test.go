package resolve_test

import (
	"math/rand"
	"slices"
	"strings"
	"testing"

	"smithy/api"
	"smithy/ast"
	"smithy/parse"
	"smithy/resolve"
)

// teller tells random files, with few names in them and many Comps.
type teller struct {
	random *rand.Rand
}

func (r *teller) pick(choices ...string) string {
	return choices[r.random.Intn(len(choices))]
}

func (r *teller) name() string {
	return r.pick("a", "b", "c", "d", "e")
}

func (r *teller) maybe(text string) string {
	return r.pick("", text)
}

func (r *teller) expr(deep int) string {
	if deep == 0 {
		return r.pick(r.name(), r.name(), "1")
	}
	inner := func() string { return r.expr(r.random.Intn(deep)) }
	switch r.random.Intn(8) {
	case 0:
		return "(" + inner() + ", " + inner() + ")"
	case 1:
		return "(" + inner() + r.pick(" + ", " and ", " in ") + inner() + ")"
	case 2:
		return "(" + inner() + ")(" + inner() + ", " + r.name() + " = " + inner() + ")"
	case 3:
		return "(" + inner() + ")[" + inner() + r.maybe(": "+inner()) + "]"
	case 4:
		return r.name()
	}
	return "[" + r.expr(deep-1) + " for " + r.target(deep-1) + " in " + inner() + r.maybe(" if "+inner()) + "]"
}

func (r *teller) target(deep int) string {
	if deep <= 0 || r.random.Intn(3) == 0 {
		return r.name()
	}
	if r.random.Intn(3) == 0 {
		return r.name() + "[" + r.expr(deep-1) + "]"
	}
	return "(" + r.target(deep-1) + ", " + r.maybe(r.target(deep-1)) + ")"
}

// statement is one that stands in what the words say, its lines behind that much room.
func (r *teller) statement(room string, deep int, in string) string {
	inner := func() string { return r.expr(r.random.Intn(3)) }
	kinds := "expr assign assign addto for if"
	if in == "whole" {
		kinds += " def def load"
	} else if in == "def" {
		kinds += " return"
	}
	kind := r.pick(strings.Fields(kinds)...)
	within := strings.TrimPrefix(in, "whole")
	if deep == 0 && (kind == "for" || kind == "if" || kind == "def") {
		kind = "expr"
	}
	switch kind {
	case "assign":
		return room + r.target(2) + " = " + inner() + "\n"
	case "addto":
		return room + r.name() + r.maybe("["+inner()+"]") + " += " + inner() + "\n"
	case "for":
		return room + "for " + r.target(2) + " in " + inner() + ":\n" + r.block(room, deep, within)
	case "if":
		return room + "if " + inner() + ":\n" + r.block(room, deep, within) + r.maybe(room+"else:\n"+r.block(room, deep, within))
	case "def":
		params := []string{"", "a, ", "b, a, ", "e, c, d, "}[r.random.Intn(4)] + r.maybe("x = "+inner()+", ") + r.maybe("y = "+inner())
		return room + "def " + r.name() + "(" + params + "):\n" + r.block(room, deep, "def")
	case "load":
		return room + "load('m', '" + r.name() + "'" + r.maybe(", "+r.name()+" = 'x'") + ")\n"
	case "return":
		return room + "return " + inner() + "\n"
	}
	return room + inner() + "\n"
}

func (r *teller) block(room string, deep int, in string) string {
	text := ""
	for range 1 + r.random.Intn(3) {
		text += r.statement(room+" ", deep-1, in)
	}
	return text
}

func (r *teller) file() string {
	text := ""
	for range 1 + r.random.Intn(5) {
		text += r.statement("", 2, "whole")
	}
	return text
}

// strewn is the same tree, its nodes in a random order, with random Pos.
func strewn(random *rand.Rand, l []api.Node) []api.Node {
	var out []api.Node
	now := make([]int, len(l))
	waits := make([]int, len(l)) // how many of its kids do not lie yet
	parent := make([]int, len(l))
	var ready []int
	for i, node := range l {
		for _, kid := range node.Kids {
			parent[kid] = i
		}
		if waits[i] = len(node.Kids); waits[i] == 0 {
			ready = append(ready, i)
		}
	}
	for len(ready) > 0 {
		at := random.Intn(len(ready))
		i := ready[at]
		ready = slices.Delete(ready, at, at+1)
		node := api.Node{Op: l[i].Op, S: l[i].S, Pos: random.Intn(1000)}
		for _, kid := range l[i].Kids {
			node.Kids = append(node.Kids, now[kid])
		}
		now[i] = len(out)
		out = append(out, node)
		if waits[parent[i]]--; waits[parent[i]] == 0 {
			ready = append(ready, parent[i])
		}
	}
	return out
}

// asPlain holds an answer against the plain way's, and tells whether there is no error.
func asPlain(t *testing.T, what any, l []api.Node, given []string) bool {
	t.Helper()
	uses, funcs, err := resolve.Resolve(l, given...)
	wantUses, wantFuncs, want := plainOf(l, given).resolve()
	if want != nil {
		isFault(t, what, uses, funcs, err, want)
		return false
	}
	same := func(a, b resolve.Func) bool {
		return a.Node == b.Node && a.Params == b.Params && a.Slots == b.Slots && slices.Equal(a.Names, b.Names)
	}
	if err != nil || !slices.Equal(uses, wantUses) || !slices.EqualFunc(funcs, wantFuncs, same) {
		t.Fatalf("%v: %v\n%v\n%v\n%v\n%v", what, err, uses, wantUses, funcs, wantFuncs)
	}
	return true
}

// P8.1: random files, as they are parsed and with their nodes in another order, against the plain way.
func TestRandomFiles(t *testing.T) {
	random := rand.New(rand.NewSource(8))
	rounds := 2000
	if testing.Short() {
		rounds = 200
	}
	fine, bad := 0, 0
	for range rounds {
		text := (&teller{random}).file()
		l, err := parse.Parse(text)
		if err != nil {
			t.Fatal(text, err)
		}
		given := strings.Fields("a b b d c e x y a")[random.Intn(3):]
		given = given[:1+random.Intn(len(given))]
		other := strewn(random, l)
		if err := ast.Valid(other); err != nil || !ast.Same(l, other) {
			t.Fatal("strewn wrongly:", text, err)
		}
		for _, nodes := range [][]api.Node{l, other} {
			if asPlain(t, text, nodes, given) {
				fine++
			} else {
				bad++
			}
		}
	}
	if fine < rounds/4 || bad < rounds/4 {
		t.Error("too few of one sort:", fine, bad)
	}
}
