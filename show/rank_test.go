package show_test

import (
	"strings"
	"testing"

	"smithy/api"
	"smithy/ast"
	"smithy/parse"
	"smithy/show"
)

// ranks are the Ops of each rank, from 0 on.
var ranks = []string{
	"? Nothing Arg Expr Assign AddTo Pass Break Continue Return Load Cond For Def Param Block",
	"If", "Or", "And", "Not", "Eq Ne Lt Le Gt Ge In NotIn", "Add Sub", "Mul Div Mod", "Neg",
	"None True False Int Str Name List Tuple Dict Call Dot Index Slice Comp",
}

func rankOf(name string) int {
	for rank, names := range ranks {
		for _, s := range strings.Fields(names) {
			if s == name {
				return rank
			}
		}
	}
	panic("no rank: " + name)
}

// P7.2: the rank of each Op.
func TestRank(t *testing.T) {
	for op, name := range opNames {
		if got := show.Rank(op); got != rankOf(name) {
			t.Error(name, got)
		}
	}
	if len(opNames) != api.NBlock+1 {
		t.Error("not each Op is here")
	}
}

// P7.2: what is no Op has no rank.
func TestNoRank(t *testing.T) {
	for _, op := range []int{0, -1, -20, 48, 49, 64, 99, 1 << 20, 1<<63 - 1, -1 << 63, api.NName + 1<<32, api.NIf + 256} {
		if got := show.Rank(op); got != 0 {
			t.Error(op, got)
		}
	}
}

// place is a place for an expression: a tree with @ where its kid stands, the rank that it asks, the text with @ likewise.
type place struct {
	tree string
	asks int
	text string
}

var binaries = strings.Fields("Or:or And:and Eq:== Ne:!= Lt:< Le:<= Gt:> Ge:>= In:in NotIn:not_in Add:+ Sub:- Mul:* Div:// Mod:%")

// asked are what the left and the right kid of the binary ones need, by rank.
var asked = [][2]int{2: {2, 3}, 3: {3, 4}, 5: {6, 6}, 6: {6, 7}, 7: {7, 8}}

// places are all there are in expressions, but for those of targets.
func places() []place {
	l := []place{
		{"If(@ Name:x Name:y)", 2, "x if @ else y"}, {"If(Name:x @ Name:y)", 2, "@ if x else y"}, {"If(Name:x Name:y @)", 1, "y if x else @"},
		{"Not(@)", 4, "not @"}, {"Neg(@)", 8, "-@"},
		{"Call(@)", 9, "@()"}, {"Call(@ Name:x Arg:k(Name:y))", 9, "@(x, k = y)"}, {"Call(Name:x @)", 1, "x(@)"},
		{"Call(Name:x Name:y @ Arg:k(Name:z))", 1, "x(y, @, k = z)"}, {"Call(Name:x Arg:k(@))", 1, "x(k = @)"}, {"Call(Name:x Name:y Arg:k(Name:y) Arg:l(@))", 1, "x(y, k = y, l = @)"},
		{"Dot:n(@)", 9, "@.n"}, {"Index(@ Name:x)", 9, "@[x]"}, {"Index(Name:x @)", 1, "x[@]"},
		{"Slice(@ Nothing Nothing)", 9, "@[:]"}, {"Slice(@ Name:x Name:y)", 9, "@[x:y]"}, {"Slice(Name:x @ Name:y)", 1, "x[@:y]"}, {"Slice(Name:x @ Nothing)", 1, "x[@:]"},
		{"Slice(Name:x Name:y @)", 1, "x[y:@]"}, {"Slice(Name:x Nothing @)", 1, "x[:@]"},
		{"List(@)", 1, "[@]"}, {"List(@ Name:x)", 1, "[@, x]"}, {"List(Name:x @)", 1, "[x, @]"},
		{"Tuple(@)", 1, "(@,)"}, {"Tuple(@ Name:x)", 1, "(@, x)"}, {"Tuple(Name:x Name:y @)", 1, "(x, y, @)"},
		{"Dict(@ Name:x)", 1, "{@: x}"}, {"Dict(Name:x @)", 1, "{x: @}"}, {"Dict(Name:x Name:y @ Name:z)", 1, "{x: y, @: z}"}, {"Dict(Name:x Name:y Name:z @)", 1, "{x: y, z: @}"},
		{"Comp(@ Name:x Name:y)", 1, "[@ for x in y]"}, {"Comp(Name:x Name:x @)", 2, "[x for x in @]"},
		{"Comp(@ Name:x Name:y Name:z)", 1, "[@ for x in y if z]"}, {"Comp(Name:x Name:x @ Name:z)", 2, "[x for x in @ if z]"}, {"Comp(Name:x Name:x Name:y @)", 2, "[x for x in y if @]"},
		{"Comp(Name:x Index(Name:y @) Name:z)", 1, "[x for y[@] in z]"},
	}
	for _, b := range binaries {
		op, sign, _ := strings.Cut(b, ":")
		sign = " " + strings.ReplaceAll(sign, "_", " ") + " "
		asks := asked[rankOf(op)]
		l = append(l, place{op + "(@ Name:x)", asks[0], "@" + sign + "x"}, place{op + "(Name:x @)", asks[1], "x" + sign + "@"})
	}
	return l
}

var leaf = place{tree: "Name:a", text: "a"}

// leaves are expressions of each kind that has no places.
var leaves = []place{
	leaf,
	{tree: "None", text: "None"}, {tree: "True", text: "True"}, {tree: "False", text: "False"}, {tree: "Int:12", text: "12"}, {tree: "Str:s", text: `"s"`},
	{tree: "List", text: "[]"}, {tree: "Tuple", text: "()"}, {tree: "Dict", text: "{}"}, {tree: "Comp(Name:a Name:b Name:c)", text: "[a for b in c]"},
}

func opName(tree string) string {
	return tree[:strings.IndexAny(tree+":", ":(")]
}

// brackets tells whether a tree has to have brackets in the place.
func (p place) brackets(tree string) bool {
	op := opName(tree)
	return rankOf(op) < p.asks || op == "Int" && strings.HasPrefix(p.tree, "Dot")
}

// with is the place with an expression in it; that may be a place itself.
func (p place) with(in place) place {
	text := in.text
	if p.brackets(in.tree) {
		text = "(" + text + ")"
	}
	return place{strings.Replace(p.tree, "@", in.tree, 1), 0, strings.Replace(p.text, "@", text, 1)}
}

// P7.2, P7.3: each place with each kind of expression in it.
func TestPlaces(t *testing.T) {
	for _, p := range places() {
		for _, in := range append(places(), leaves...) {
			whole := p.with(in.with(leaf))
			l := tree(whole.tree)
			isExpr(t, whole.tree, l, whole.text)
			exprTurns(t, l, whole.text)
			turns(t, asFile(l), whole.text+"\n")
		}
	}
}

// one is an expression of each rank, and an Int.
var one = []place{
	{"If(Name:d Name:e Name:f)", 0, "e if d else f"}, {"Or(Name:d Name:e)", 0, "d or e"}, {"And(Name:d Name:e)", 0, "d and e"}, {"Not(Name:d)", 0, "not d"},
	{"NotIn(Name:d Name:e)", 0, "d not in e"}, {"Sub(Name:d Name:e)", 0, "d - e"}, {"Mod(Name:d Name:e)", 0, "d % e"}, {"Neg(Name:d)", 0, "-d"},
	{"Int:0", 0, "0"}, {"Tuple(Name:d)", 0, "(d,)"},
}

// P7.2, P7.3: each place within each place, with an expression of each rank in it.
func TestPlacesInPlaces(t *testing.T) {
	for _, outer := range places() {
		for _, inner := range places() {
			for _, in := range one {
				whole := outer.with(inner.with(in))
				l := tree(whole.tree)
				isExpr(t, whole.tree, l, whole.text)
				exprTurns(t, l, whole.text)
			}
		}
	}
}

// P7.2: where brackets stand, but for those of an Int with a Dot, it is another tree without them.
func TestNeededBrackets(t *testing.T) {
	for _, p := range places() {
		for _, in := range places() {
			if !p.brackets(in.tree) {
				continue
			}
			whole := p.with(in.with(leaf))
			bare := strings.Replace(p.text, "@", in.with(leaf).text, 1)
			if other, err := parse.Expr(bare); err == nil && ast.Same(other, tree(whole.tree)) {
				t.Errorf("%q needs no brackets: %q", whole.text, bare)
			}
		}
	}
}
