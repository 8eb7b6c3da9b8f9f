package show_test

import (
	"strconv"
	"strings"
	"testing"

	"smithy/api"
	"smithy/lex"
)

// P7.1, P7.2: each kind of expression, byte by byte.
func TestExpressions(t *testing.T) {
	for _, x := range [][2]string{
		{"None", "None"}, {"True", "True"}, {"False", "False"},
		{"Int:0", "0"}, {"Int:120", "120"}, {"Int:" + strings.Repeat("9", api.MaxDigits), strings.Repeat("9", api.MaxDigits)},
		{"Name:x", "x"}, {"Name:_", "_"}, {"Name:a_B1", "a_B1"}, {"Str", `""`}, {"Str:a", `"a"`}, {`Str:"'"`, `"'"`},
		{"List", "[]"}, {"List(Name:a)", "[a]"}, {"List(Name:a Int:1 Str:b)", `[a, 1, "b"]`}, {"List(List List(List))", "[[], [[]]]"},
		{"Tuple", "()"}, {"Tuple(Name:a)", "(a,)"}, {"Tuple(Name:a Name:b)", "(a, b)"}, {"Tuple(Name:a Name:b Name:c Name:d)", "(a, b, c, d)"},
		{"Tuple(Tuple)", "((),)"}, {"Tuple(Tuple(Tuple) Tuple(Name:a Name:b))", "(((),), (a, b))"},
		{"Dict", "{}"}, {"Dict(Name:a Name:b)", "{a: b}"}, {"Dict(Str:a Int:1 Str:b Int:2 Str:a Dict)", `{"a": 1, "b": 2, "a": {}}`},
		{"Call(Name:f)", "f()"}, {"Call(Name:f Name:a)", "f(a)"}, {"Call(Name:f Name:a Name:b Name:c)", "f(a, b, c)"},
		{"Call(Name:f Arg:k(Name:a))", "f(k = a)"}, {"Call(Name:f Name:a Arg:k(Name:b) Arg:l(Int:1))", "f(a, k = b, l = 1)"}, {"Call(Call(Name:f) Call(Name:g))", "f()(g())"},
		{"Call(Name:f Tuple(Name:a Name:b) Arg:k(Tuple))", "f((a, b), k = ())"},
		{"Dot:n(Name:a)", "a.n"}, {"Dot:o(Dot:n(Name:a))", "a.n.o"}, {"Dot:n(Call(Dot:f(Name:a)))", "a.f().n"},
		{"Index(Name:a Name:b)", "a[b]"}, {"Index(Index(Name:a Int:0) Index(Name:b Int:1))", "a[0][b[1]]"}, {"Index(Name:a Tuple(Name:b Name:c))", "a[(b, c)]"},
		{"Slice(Name:a Name:b Name:c)", "a[b:c]"}, {"Slice(Name:a Nothing Name:c)", "a[:c]"}, {"Slice(Name:a Name:b Nothing)", "a[b:]"}, {"Slice(Name:a Nothing Nothing)", "a[:]"},
		{"Slice(Slice(Name:a Nothing Int:1) Neg(Int:2) Nothing)", "a[:1][-2:]"},
		{"Neg(Name:a)", "-a"}, {"Neg(Neg(Neg(Int:1)))", "---1"}, {"Not(Name:a)", "not a"}, {"Not(Not(Name:a))", "not not a"}, {"Not(Neg(Name:a))", "not -a"}, {"Neg(Not(Name:a))", "-(not a)"},
		{"And(Name:a Name:b)", "a and b"}, {"Or(Name:a Name:b)", "a or b"}, {"If(Name:c Name:a Name:b)", "a if c else b"},
		{"Add(Name:a Name:b)", "a + b"}, {"Sub(Name:a Name:b)", "a - b"}, {"Mul(Name:a Name:b)", "a * b"}, {"Div(Name:a Name:b)", "a // b"}, {"Mod(Name:a Name:b)", "a % b"},
		{"Eq(Name:a Name:b)", "a == b"}, {"Ne(Name:a Name:b)", "a != b"}, {"Lt(Name:a Name:b)", "a < b"}, {"Le(Name:a Name:b)", "a <= b"}, {"Gt(Name:a Name:b)", "a > b"},
		{"Ge(Name:a Name:b)", "a >= b"}, {"In(Name:a Name:b)", "a in b"}, {"NotIn(Name:a Name:b)", "a not in b"},
		{"Comp(Name:a Name:b Name:c)", "[a for b in c]"}, {"Comp(Name:a Name:b Name:c Name:d)", "[a for b in c if d]"},
		{"Comp(Tuple(Name:a Name:b) Tuple(Name:a Name:b) Tuple(Name:c Name:d) Tuple(Name:e))", "[(a, b) for (a, b) in (c, d) if (e,)]"},
		{"Comp(Name:a Tuple(Tuple(Name:b) Index(Name:c Int:0)) Name:d)", "[a for ((b,), c[0]) in d]"},
		{"Comp(Comp(Name:a Name:b Name:c) Name:d Comp(Name:e Name:f Name:g) Comp(Name:h Name:i Name:j))", "[[a for b in c] for d in [e for f in g] if [h for i in j]]"},
	} {
		l := tree(x[0])
		isExpr(t, x[0], l, x[1])
		exprTurns(t, l, x[1])
		turns(t, asFile(l), x[1]+"\n")
	}
}

// P7.2: brackets of binary ones, as they go from the left; the chapter's examples, too.
func TestFromTheLeft(t *testing.T) {
	for _, x := range [][2]string{
		{"Sub(Sub(Name:a Name:b) Name:c)", "a - b - c"}, {"Sub(Name:a Sub(Name:b Name:c))", "a - (b - c)"},
		{"Add(Add(Add(Name:a Name:b) Name:c) Add(Name:d Add(Name:e Name:f)))", "a + b + c + (d + (e + f))"},
		{"Mul(Add(Name:a Name:b) Name:c)", "(a + b) * c"}, {"Add(Name:a Mul(Name:b Name:c))", "a + b * c"}, {"Mod(Name:a Mul(Name:b Name:c))", "a % (b * c)"},
		{"Or(Or(Name:a Name:b) Or(Name:c Name:d))", "a or b or (c or d)"}, {"And(Or(Name:a Name:b) And(Name:c Name:d))", "(a or b) and (c and d)"},
		{"Or(And(Name:a Name:b) Not(Name:c))", "a and b or not c"}, {"And(Not(Name:a) Not(And(Name:b Name:c)))", "not a and not (b and c)"},
		{"Eq(Eq(Name:a Name:b) Ne(Name:c Name:d))", "(a == b) == (c != d)"}, {"Not(Eq(Name:a Name:b))", "not a == b"}, {"Eq(Not(Name:a) Name:b)", "(not a) == b"},
		{"Not(In(Name:a Name:b))", "not a in b"}, {"NotIn(Name:a Not(Name:b))", "a not in (not b)"},
		{"Sub(Name:a Neg(Name:b))", "a - -b"}, {"Mul(Neg(Name:a) Neg(Name:b))", "-a * -b"}, {"Neg(Mul(Name:a Name:b))", "-(a * b)"}, {"Neg(Dot:n(Name:a))", "-a.n"}, {"Dot:n(Neg(Name:a))", "(-a).n"},
		{"If(Name:a Name:b If(Name:c Name:d Name:e))", "b if a else d if c else e"}, {"If(If(Name:a Name:b Name:c) If(Name:d Name:e Name:f) Name:g)", "(e if d else f) if (b if a else c) else g"},
	} {
		l := tree(x[0])
		isExpr(t, x[0], l, x[1])
		exprTurns(t, l, x[1])
	}
}

// P7.2: what is called, indexed, sliced, or has a Dot.
func TestHung(t *testing.T) {
	for _, x := range [][2]string{
		{"Name:a", "a"}, {"Str:s", `"s"`}, {"None", "None"}, {"Call(Name:f)", "f()"}, {"Dot:m(Name:a)", "a.m"}, {"Index(Name:a Int:0)", "a[0]"}, {"Slice(Name:a Nothing Nothing)", "a[:]"},
		{"List(Int:1)", "[1]"}, {"Tuple(Int:1)", "(1,)"}, {"Tuple", "()"}, {"Dict", "{}"}, {"Comp(Name:a Name:b Name:c)", "[a for b in c]"},
		{"Neg(Name:a)", "(-a)"}, {"Neg(Int:1)", "(-1)"}, {"Not(Name:a)", "(not a)"}, {"If(Name:a Name:b Name:c)", "(b if a else c)"}, {"Add(Name:a Name:b)", "(a + b)"}, {"Eq(Name:a Name:b)", "(a == b)"},
	} {
		isExpr(t, x[0], tree("Call("+x[0]+")"), x[1]+"()")
		isExpr(t, x[0], tree("Index("+x[0]+" Int:0)"), x[1]+"[0]")
		isExpr(t, x[0], tree("Slice("+x[0]+" Nothing Int:0)"), x[1]+"[:0]")
		isExpr(t, x[0], tree("Dot:n("+x[0]+")"), x[1]+".n")
	}
	isExpr(t, "an Int", tree("Dot:n(Int:1)"), "(1).n")
	isExpr(t, "an Int", tree("Call(Int:1)"), "1()")
	isExpr(t, "an Int", tree("Index(Int:1 Int:0)"), "1[0]")
	isExpr(t, "an Int", tree("Slice(Int:1 Nothing Int:0)"), "1[:0]")
	isExpr(t, "an Int further down", tree("Dot:n(Call(Dot:n(Int:1) Int:2))"), "(1).n(2).n")
}

// quoted is a tree of a Str.
func quoted(s string) []api.Node {
	return tree("Str:" + strconv.Quote(s))
}

// P7.1: a string is what lex.Quote says, of each byte.
func TestStrings(t *testing.T) {
	all := ""
	for c := range 256 {
		s := string([]byte{byte(c)})
		all += s
		l := []api.Node{{Op: api.NStr, S: "a" + s + "0"}}
		isExpr(t, c, l, lex.Quote("a"+s+"0"))
		exprTurns(t, l, lex.Quote("a"+s+"0"))
	}
	l := []api.Node{{Op: api.NStr, S: all}}
	isExpr(t, "all", l, lex.Quote(all))
	exprTurns(t, l, lex.Quote(all))
	isExpr(t, "some", quoted("a\n\t\\\"'\x00\x1f\x7f"), `"a\n\t\\\"'\x00\x1f\x7f"`)
	isExpr(t, "in a row", tree(`Add(Str:"a\n" Str:"\"")`), `"a\n" + "\""`)
}

// P7.1: of nodes that lie otherwise, and have any Pos, it is the same text.
func TestOtherPlaces(t *testing.T) {
	l := []api.Node{{Op: api.NName, S: "c", Pos: 9}, {Op: api.NName, S: "b", Pos: -3}, {Op: api.NName, S: "a", Pos: 1 << 40}, {Op: api.NSub, Kids: []int{1, 0}}, {Op: api.NDiv, Kids: []int{2, 3}, Pos: 7}}
	isExpr(t, "turned", l, "a // (b - c)")
	file := []api.Node{{Op: api.NPass}, {Op: api.NName, S: "x"}, {Op: api.NBreak}, {Op: api.NBlock, Kids: []int{2}}, {Op: api.NName, S: "y"}, {Op: api.NFor, Kids: []int{4, 1, 3}}, {Op: api.NBlock, Kids: []int{5, 0}}}
	isText(t, "turned", file, "for y in x:\n    break\npass\n")
}
