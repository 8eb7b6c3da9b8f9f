package show_test

import (
	"math/rand"
	"slices"
	"strconv"
	"strings"
	"testing"

	"smithy/api"
	"smithy/ast"
	"smithy/lex"
	"smithy/show"
)

// grower makes random trees, such as texts are parsed as. Trees beneath one node lie in any order.
type grower struct {
	random *rand.Rand
	nodes  []api.Node
}

func randomExpr(random *rand.Rand, deep int) []api.Node {
	g := &grower{random: random}
	g.expr(deep)
	return g.nodes
}

func randomFile(random *rand.Rand, deep int) []api.Node {
	g := &grower{random: random}
	g.block(deep, "whole")
	return g.nodes
}

func (g *grower) pick(text string) string {
	l := strings.Fields(text)
	return l[g.random.Intn(len(l))]
}

func (g *grower) name() string {
	return g.pick("a b c d e f x1 _y longer")
}

func (g *grower) add(op, s string, kids ...int) int {
	g.nodes = append(g.nodes, api.Node{Op: opOf(op), Pos: g.random.Intn(99), S: s, Kids: kids})
	return len(g.nodes) - 1
}

// kids grows each kid, one after the other in any order.
func (g *grower) kids(grow ...func() int) []int {
	kids := make([]int, len(grow))
	for _, at := range g.random.Perm(len(grow)) {
		kids[at] = grow[at]()
	}
	return kids
}

// some are a few growers, min at least.
func (g *grower) some(min int, grow func() int) []func() int {
	var l []func() int
	for range min + g.random.Intn(4)*g.random.Intn(2) {
		l = append(l, grow)
	}
	return l
}

func (g *grower) leaf() int {
	switch op := g.pick("None True False Int Int Str Name Name Name"); op {
	case "Int":
		return g.add(op, strconv.Itoa(g.random.Intn(200)))
	case "Str":
		s := make([]byte, g.random.Intn(5))
		for i := range s {
			s[i] = byte(g.random.Intn(256))
		}
		return g.add(op, string(s))
	case "Name":
		return g.add(op, g.name())
	default:
		return g.add(op, "")
	}
}

func (g *grower) expr(deep int) int {
	if deep == 0 || g.random.Intn(6) == 0 {
		return g.leaf()
	}
	inner := func() int { return g.expr(deep - 1) }
	switch op := g.pick("List Tuple Dict Call Call Dot Dot Index Index Slice Neg Not Neg Not If If If Comp Comp Bin Bin Bin Bin Bin Bin Bin"); op {
	case "List", "Tuple":
		return g.add(op, "", g.kids(g.some(0, inner)...)...)
	case "Dict":
		half := g.some(0, inner)
		return g.add(op, "", g.kids(append(half, half...)...)...)
	case "Call":
		return g.call(deep)
	case "Dot":
		return g.add(op, g.name(), inner())
	case "Slice":
		return g.add(op, "", g.kids(inner, func() int { return g.bound(deep) }, func() int { return g.bound(deep) })...)
	case "Neg", "Not":
		return g.add(op, "", inner())
	case "If":
		return g.add(op, "", g.kids(inner, inner, inner)...)
	case "Comp":
		grow := []func() int{inner, func() int { return g.target(deep, "Name Index Tuple") }, inner, inner}
		return g.add(op, "", g.kids(grow[:3+g.random.Intn(2)]...)...)
	case "Bin":
		op = g.pick("Or And Eq Ne Lt Le Gt Ge In NotIn Add Sub Mul Div Mod Or And Add Sub Mul Div Mod")
		return g.add(op, "", g.kids(inner, inner)...)
	default:
		return g.add(op, "", g.kids(inner, inner)...)
	}
}

func (g *grower) call(deep int) int {
	inner := func() int { return g.expr(deep - 1) }
	grow := append([]func() int{inner}, g.some(0, inner)...)
	for at := range g.random.Intn(3) {
		grow = append(grow, func() int { return g.add("Arg", g.name()+strconv.Itoa(at), inner()) })
	}
	return g.add("Call", "", g.kids(grow...)...)
}

func (g *grower) bound(deep int) int {
	if g.random.Intn(2) == 0 {
		return g.add("Nothing", "")
	}
	return g.expr(deep - 1)
}

// target is one of a For or a Comp, which begins with a name.
func (g *grower) target(deep int, ops string) int {
	op := g.pick(ops)
	switch {
	case op == "Index" && deep > 0:
		return g.add(op, "", g.kids(func() int { return g.primary(deep - 1) }, func() int { return g.expr(deep - 1) })...)
	case op == "Tuple" && deep > 0:
		return g.add(op, "", g.kids(g.some(1, func() int { return g.target(deep-1, ops) })...)...)
	}
	return g.add("Name", g.name())
}

// primary is an expression that begins with a name.
func (g *grower) primary(deep int) int {
	if deep == 0 {
		return g.add("Name", g.name())
	}
	inner := func() int { return g.primary(deep - 1) }
	switch op := g.pick("Name Call Dot Index"); op {
	case "Call":
		return g.add(op, "", g.kids(inner, func() int { return g.expr(deep - 1) })...)
	case "Dot":
		return g.add(op, g.name(), inner())
	case "Index":
		return g.add(op, "", g.kids(inner, func() int { return g.expr(deep - 1) })...)
	}
	return g.add("Name", g.name())
}

// block is one that stands in what the words say: whole, def, for.
func (g *grower) block(deep int, in string) int {
	return g.add("Block", "", g.kids(g.some(1, func() int { return g.statement(deep, in) })...)...)
}

func (g *grower) statement(deep int, in string) int {
	ops := "Expr Assign AddTo Pass"
	for _, x := range [][2]string{{"whole", "Load Def Def"}, {"def", "Return"}, {"for", "Break Continue"}} {
		if strings.Contains(in, x[0]) {
			ops += " " + x[1]
		}
	}
	if deep > 0 {
		ops += " Cond Cond Cond For For"
	}
	inner := func() int { return g.expr(deep) }
	within := strings.ReplaceAll(in, "whole", "")
	switch op := g.pick(ops); op {
	case "Expr":
		return g.add(op, "", inner())
	case "Assign":
		return g.add(op, "", g.kids(func() int { return g.target(deep, "Name Name Index Tuple") }, inner)...)
	case "AddTo":
		return g.add(op, "", g.kids(func() int { return g.target(deep, "Name Index") }, inner)...)
	case "Return":
		return g.add(op, "", g.kids([]func() int{inner}[g.random.Intn(2):]...)...)
	case "Load":
		return g.add(op, g.pick("m //a:b ''"), g.kids(g.some(1, g.loaded)...)...)
	case "Cond":
		grow := []func() int{inner, func() int { return g.block(deep-1, within) }, func() int { return g.block(deep-1, within) }}
		return g.add(op, "", g.kids(grow[:2+g.random.Intn(2)]...)...)
	case "For":
		return g.add(op, "", g.kids(func() int { return g.target(deep, "Name Index Tuple") }, inner, func() int { return g.block(deep-1, within+" for") })...)
	case "Def":
		return g.def(deep)
	default:
		return g.add(op, "")
	}
}

func (g *grower) loaded() int {
	name := g.name()
	there := g.pick("a b c Z0 " + name + " " + name)
	return g.add("Param", name, g.add("Str", there))
}

func (g *grower) def(deep int) int {
	var grow []func() int
	params := g.random.Intn(4)
	given := g.random.Intn(params + 1) // how many have no value
	for at := range params {
		name := g.name() + strconv.Itoa(at)
		grow = append(grow, func() int {
			if at < given {
				return g.add("Param", name)
			}
			return g.add("Param", name, g.expr(deep))
		})
	}
	grow = append(grow, func() int { return g.block(max(deep-1, 0), "def") })
	return g.add("Def", g.name(), g.kids(grow...)...)
}

// asksOf are what the places of an Op ask; each other place asks 1.
var asksOf = map[string][]int{
	"If": {2, 2, 1}, "Not": {4}, "Neg": {8}, "Call": {9}, "Index": {9}, "Slice": {9}, "Dot": {9}, "Comp": {1, 1, 2, 2},
}

// asksBy are what the two places of a binary Op ask, by its rank.
var asksBy = map[int][]int{2: {2, 3}, 3: {3, 4}, 5: {6, 6}, 6: {6, 7}, 7: {7, 8}}

var signs = map[string]string{
	"Or": "or", "And": "and", "Eq": "==", "Ne": "!=", "Lt": "<", "Le": "<=", "Gt": ">", "Ge": ">=", "In": "in", "NotIn": "not in", "Add": "+", "Sub": "-", "Mul": "*", "Div": "//", "Mod": "%",
	"Assign": "=", "AddTo": "+=",
}

// plain is the text of node i, as the chapter says it, without a newline behind: the second way of the tests. It pieces
// together those of its kids.
func plain(l []api.Node, i int) string {
	node := l[i]
	op := opNames[node.Op]
	asks := append(slices.Clone(asksOf[op]), asksBy[rankOf(op)]...)
	var kids []string
	for at, kid := range node.Kids {
		text, name := plain(l, kid), opNames[l[kid].Op]
		if at < len(asks) && rankOf(name) < asks[at] && text != "" && name != "Arg" || op == "Dot" && name == "Int" {
			text = "(" + text + ")"
		}
		kids = append(kids, text)
	}
	if len(kids) == 0 && node.S == "" && strings.Contains(" None True False Pass Break Continue Return ", " "+op+" ") {
		if rankOf(op) == 0 {
			return strings.ToLower(op)
		}
		return op
	}
	if sign := signs[op]; sign != "" {
		return kids[0] + " " + sign + " " + kids[1]
	}
	if rankOf(op) > 0 {
		return plainExpr(node, op, kids)
	}
	return plainRest(l, node, op, kids)
}

func plainExpr(node api.Node, op string, kids []string) string {
	row := strings.Join(kids, ", ")
	switch op {
	case "List":
		return "[" + row + "]"
	case "Tuple":
		return "(" + row + []string{"", ",", ""}[min(len(kids), 2)] + ")"
	case "Dict":
		var entries []string
		for pair := range slices.Chunk(kids, 2) {
			entries = append(entries, strings.Join(pair, ": "))
		}
		return "{" + strings.Join(entries, ", ") + "}"
	case "Call":
		return kids[0] + "(" + strings.Join(kids[1:], ", ") + ")"
	case "Dot":
		return kids[0] + "." + node.S
	case "Index", "Slice":
		return kids[0] + "[" + strings.Join(kids[1:], ":") + "]"
	case "Neg":
		return "-" + kids[0]
	case "Not":
		return "not " + kids[0]
	case "If":
		return kids[1] + " if " + kids[0] + " else " + kids[2]
	case "Comp":
		return strings.Join(append([]string{"[" + kids[0] + " for " + kids[1] + " in " + kids[2]}, kids[3:]...), " if ") + "]"
	case "Str":
		return lex.Quote(node.S)
	}
	return node.S
}

func plainRest(l []api.Node, node api.Node, op string, kids []string) string {
	last := len(kids) - 1
	switch op {
	case "Arg", "Param":
		return strings.Join(append([]string{node.S}, kids...), " = ")
	case "Expr":
		return kids[0]
	case "Return":
		return "return " + kids[0]
	case "Block":
		return strings.Join(kids, "\n")
	case "For":
		return "for " + kids[0] + " in " + kids[1] + ":" + indented(kids[2])
	case "Def":
		return "def " + node.S + "(" + strings.Join(kids[:last], ", ") + "):" + indented(kids[last])
	case "Load":
		for i, text := range kids {
			if name := l[node.Kids[i]].S; text == name+" = "+lex.Quote(name) {
				kids[i] = lex.Quote(name)
			}
		}
		return "load(" + strings.Join(append([]string{lex.Quote(node.S)}, kids...), ", ") + ")"
	case "Cond":
		text := "if " + kids[0] + ":" + indented(kids[1])
		if last < 2 {
			return text
		}
		if other := l[node.Kids[2]].Kids; len(other) == 1 && opNames[l[other[0]].Op] == "Cond" {
			return text + "\nel" + kids[2]
		}
		return text + "\nelse:" + indented(kids[2])
	}
	return "" // Nothing
}

// indented is a Block's text, behind the line that it stands behind.
func indented(text string) string {
	return strings.ReplaceAll("\n"+text, "\n", "\n    ")
}

// P7.1 to P7.3: random files.
func TestRandomFiles(t *testing.T) {
	random := rand.New(rand.NewSource(71))
	for round := range rounds(4000) {
		l := randomFile(random, 1+round%4)
		if err := ast.Valid(l); err != nil {
			t.Fatal(err, l)
		}
		text := plain(l, len(l)-1) + "\n"
		if len(text) > api.MaxText {
			got, err := show.Text(l)
			isFault(t, "long", got, err, api.ErrLimit)
			continue
		}
		isText(t, round, l, text)
		turns(t, l, text)
	}
}

// P7.1 to P7.3: random expressions.
func TestRandomExprs(t *testing.T) {
	random := rand.New(rand.NewSource(72))
	for round := range rounds(20000) {
		l := randomExpr(random, 1+round%5)
		text := plain(l, len(l)-1)
		isExpr(t, round, l, text)
		exprTurns(t, l, text)
	}
}

func rounds(n int) int {
	if testing.Short() {
		return n / 10
	}
	return n
}
