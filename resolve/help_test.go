package resolve_test

import (
	"reflect"
	"slices"
	"strconv"
	"strings"
	"testing"

	"smithy/api"
	"smithy/ast"
	"smithy/parse"
	"smithy/resolve"
)

var opNames = strings.Fields("? None True False Int Str Name List Tuple Dict Call Arg Dot Index Slice Nothing Neg Not And Or If Add Sub Mul Div Mod " +
	"Eq Ne Lt Le Gt Ge In NotIn Comp Expr Assign AddTo Pass Break Continue Return Load Cond For Def Param Block")

// laid is nodes in the order in which a text has them: Op:S,kid,kid each, with a space between. Each has a Pos of its own.
func laid(text string) []api.Node {
	var l []api.Node
	for _, word := range strings.Fields(text) {
		head, kids, _ := strings.Cut(word, ",")
		op, s, _ := strings.Cut(head, ":")
		node := api.Node{Op: slices.Index(opNames, op), S: s, Pos: 500 - 3*len(l)}
		for _, kid := range strings.FieldsFunc(kids, func(r rune) bool { return r == ',' }) {
			at, _ := strconv.Atoi(kid)
			node.Kids = append(node.Kids, at)
		}
		l = append(l, node)
	}
	return l
}

func parsed(t *testing.T, text string) []api.Node {
	t.Helper()
	l, err := parse.Parse(text)
	if err != nil {
		t.Fatalf("%q: %v", text, err)
	}
	return l
}

// usesText is the uses as a text: what each Name says, then l, g or p, and the slot.
func usesText(l []api.Node, uses []resolve.Use) string {
	var out []string
	for _, use := range uses {
		kind := map[int]string{resolve.Local: "l", resolve.Global: "g", resolve.Predeclared: "p"}[use.Scope]
		out = append(out, l[use.Node].S+":"+kind+strconv.Itoa(use.Slot))
	}
	return strings.Join(out, " ")
}

// funcsText is the Funcs as a text: Params, Slots and Names of each.
func funcsText(funcs []resolve.Func) string {
	var out []string
	for _, f := range funcs {
		out = append(out, strings.Join(append([]string{strconv.Itoa(f.Params) + "/" + strconv.Itoa(f.Slots)}, f.Names...), " "))
	}
	return strings.Join(out, "; ")
}

// nodesOf is the nodes of an Op, from the first on.
func nodesOf(l []api.Node, op int) []int {
	var at []int
	for i := range l {
		if l[i].Op == op {
			at = append(at, i)
		}
	}
	return at
}

// nodesFit checks that there is a use of each Name, and a Func of the whole and of each Def, in order.
func nodesFit(t *testing.T, what any, l []api.Node, uses []resolve.Use, funcs []resolve.Func) {
	t.Helper()
	var names, defs []int
	for _, use := range uses {
		names = append(names, use.Node)
	}
	for _, f := range funcs {
		defs = append(defs, f.Node)
	}
	if want := nodesOf(l, api.NName); !slices.Equal(names, want) {
		t.Errorf("%v: uses at %v, Names at %v", what, names, want)
	}
	if want := append([]int{len(l) - 1}, nodesOf(l, api.NDef)...); !slices.Equal(defs, want) {
		t.Errorf("%v: Funcs at %v, the whole and Defs at %v", what, defs, want)
	}
}

// treeSays holds what a tree's names mean against what they have to.
func treeSays(t *testing.T, what any, l []api.Node, wantUses, wantFuncs string, given ...string) {
	t.Helper()
	uses, funcs, err := resolve.Resolve(l, given...)
	if err != nil {
		t.Errorf("%v: %v", what, err)
		return
	}
	nodesFit(t, what, l, uses, funcs)
	if got := usesText(l, uses); got != wantUses {
		t.Errorf("%v: uses\n%s, want\n%s", what, got, wantUses)
	}
	if got := funcsText(funcs); got != wantFuncs {
		t.Errorf("%v: Funcs\n%s, want\n%s", what, got, wantFuncs)
	}
}

// says is likewise of a file's text.
func says(t *testing.T, text, wantUses, wantFuncs string, given ...string) {
	t.Helper()
	treeSays(t, strconv.Quote(text), parsed(t, text), wantUses, wantFuncs, given...)
}

// laidSays is likewise of nodes.
func laidSays(t *testing.T, text, wantUses, wantFuncs string, given ...string) {
	t.Helper()
	treeSays(t, text, laid(text), wantUses, wantFuncs, given...)
}

// isFault checks that there is nothing beside an error, which is of that very class at that very place.
func isFault(t *testing.T, what any, uses []resolve.Use, funcs []resolve.Func, err, want error) {
	t.Helper()
	if uses != nil || funcs != nil || want == nil || !reflect.DeepEqual(err, want) {
		t.Errorf("%v: %v, %v, %v; want %v", what, uses, funcs, err, want)
	}
}

// unbound checks that a tree has an ErrResolve, around that Pos.
func unbound(t *testing.T, what any, l []api.Node, pos int, given ...string) {
	t.Helper()
	if err := ast.Valid(l); err != nil {
		t.Errorf("%v: %v", what, err)
	}
	uses, funcs, err := resolve.Resolve(l, given...)
	isFault(t, what, uses, funcs, err, &api.At{Pos: pos, Err: api.ErrResolve})
}

// faults checks that a file has an ErrResolve at the sign ^, which is taken out of its text.
func faults(t *testing.T, text string, given ...string) {
	t.Helper()
	before, after, is := strings.Cut(text, "^")
	if !is {
		t.Fatal("no place in", text)
	}
	unbound(t, strconv.Quote(text), parsed(t, before+after), len(before), given...)
}
