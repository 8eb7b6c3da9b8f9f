package show_test

import (
	"errors"
	"slices"
	"strings"
	"testing"

	"smithy/api"
	"smithy/parse"
	"smithy/show"
)

// chain is what can be put around an expression again and again: a tree with @ for it, and the text around.
type chain struct {
	tree, ahead, behind string
}

var chains = []chain{
	{"Neg(@)", "-", ""}, {"Not(@)", "not ", ""}, {"List(@)", "[", "]"}, {"List(Name:b @)", "[b, ", "]"}, {"Tuple(@)", "(", ",)"}, {"Tuple(@ Name:b)", "(", ", b)"},
	{"Dict(@ Name:b)", "{", ": b}"}, {"Dict(Name:b @)", "{b: ", "}"}, {"Dot:n(@)", "", ".n"}, {"Call(@)", "", "()"}, {"Call(Name:b @)", "b(", ")"}, {"Call(Name:b Arg:k(@))", "b(k = ", ")"},
	{"Index(@ Name:b)", "", "[b]"}, {"Index(Name:b @)", "b[", "]"}, {"Slice(@ Nothing Nothing)", "", "[:]"}, {"Slice(Name:b @ Nothing)", "b[", ":]"}, {"Slice(Name:b Nothing @)", "b[:", "]"},
	{"If(Name:b Name:c @)", "c if b else ", ""}, {"Comp(@ Name:b Name:c)", "[", " for b in c]"}, {"Comp(Name:b Name:c @)", "[b for c in ", "]"}, {"Comp(Name:b Name:c Name:d @)", "[b for c in d if ", "]"},
	{"Or(@ Name:b)", "", " or b"}, {"And(@ Name:b)", "", " and b"}, {"Add(@ Name:b)", "", " + b"}, {"Sub(@ Name:b)", "", " - b"}, {"Mul(@ Name:b)", "", " * b"}, {"Div(@ Name:b)", "", " // b"},
	{"Dot:n(List(@))", "[", "].n"}, {"Dot:n(Neg(@))", "(-", ").n"}, {"Neg(Index(Name:b @))", "-b[", "]"}, {"List(Eq(@ Name:b))", "[", " == b]"}, {"List(If(@ Name:b Name:c))", "[b if ", " else c]"},
}

// around is the nodes, and behind them the chain's tree around their last one, n times.
func (c chain) around(l []api.Node, n int) []api.Node {
	for range n {
		r := &treeReader{rest: c.tree, nodes: l, hole: len(l) - 1}
		r.node()
		l = r.nodes
	}
	return l
}

func (c chain) text(name string, n int) string {
	return strings.Repeat(c.ahead, n) + name + strings.Repeat(c.behind, n)
}

// near are how many bytes the tests look at: about the limit.
var near = []int{api.MaxText - 1, api.MaxText, api.MaxText + 1}

// fits holds an answer against a text, which is to be ErrLimit if it is too long.
func fits(t *testing.T, what any, got string, err error, want string) {
	t.Helper()
	if len(want) > api.MaxText {
		isFault(t, what, got, err, api.ErrLimit)
		return
	}
	if got != want || err != nil {
		t.Errorf("%v: %d bytes %.100q, %v; want %d %.100q", what, len(got), got, err, len(want), want)
	}
}

// P7.1: chains of expressions within one another, as many as MaxText bytes have; one byte more is ErrLimit.
func TestChainsToTheLimit(t *testing.T) {
	for _, c := range chains {
		unit := len(c.ahead + c.behind)
		n := (near[0] - 1) / unit
		l := c.around([]api.Node{{Op: api.NName}}, n)
		for _, size := range near {
			l[0].S = strings.Repeat("a", size-n*unit)
			want := c.text(l[0].S, n)
			got, err := show.Expr(l)
			fits(t, c, got, err, want)
			got, err = show.Text(asFile(l))
			fits(t, c, got, err, want+"\n")
		}
	}
}

// P7.1: chains much longer than a text end with ErrLimit, too: some as long as a tree may be. Those have little to be
// written ahead of what is within, which could stop them.
func TestLongChains(t *testing.T) {
	for _, c := range chains {
		if len(c.ahead) > 1 {
			continue
		}
		l := []api.Node{{Op: api.NName, S: "a"}}
		nodes, link := 1<<17, len(c.around(l, 1))-1
		if link == 1 && c.ahead == "" {
			nodes = 1 << 20
		}
		l = c.around(l, (nodes-3)/link)
		text, err := show.Expr(l)
		isFault(t, c, text, err, api.ErrLimit)
		text, err = show.Text(asFile(l))
		isFault(t, c, text, err, api.ErrLimit)
	}
}

// P7.1: texts about the limit that have one long name, wherever it stands.
func TestLongNodes(t *testing.T) {
	for _, size := range near {
		name := strings.Repeat("a", size)
		got, err := show.Expr([]api.Node{{Op: api.NName, S: name}})
		fits(t, size, got, err, name)
		got, err = show.Expr([]api.Node{{Op: api.NStr, S: name[2:]}})
		fits(t, size, got, err, `"`+name[2:]+`"`)
		half := strings.Repeat("\\", size/2-1)
		got, err = show.Expr([]api.Node{{Op: api.NStr, S: half + name[:size%2]}})
		fits(t, size, got, err, `"`+half+half+name[:size%2]+`"`)
		got, err = show.Expr([]api.Node{{Op: api.NName, S: "x"}, {Op: api.NDot, S: name[2:], Kids: []int{0}}})
		fits(t, size, got, err, "x."+name[2:])
		for _, x := range [][2]string{
			{"Expr(Name:@)", "@\n"}, {"Assign(Name:@ Int:1)", "@ = 1\n"}, {"Assign(Name:x Name:@)", "x = @\n"}, {"Expr(Call(Name:f Arg:@(Int:1)))", "f(@ = 1)\n"}, {"Load:@(Param:a(Str:a))", "load(\"@\", \"a\")\n"},
			{"Load:m(Param:@(Str:a))", "load(\"m\", @ = \"a\")\n"}, {"Load:m(Param:a(Str:@))", "load(\"m\", a = \"@\")\n"}, {"Load:m(Param:@(Str:@))", "load(\"m\", \"@\")\n"},
			{"Def:@(Block(Pass))", "def @():\n    pass\n"}, {"Def:f(Param:@ Block(Pass))", "def f(@):\n    pass\n"}, {"Def:f(Param:@(Int:1) Block(Pass))", "def f(@ = 1):\n    pass\n"},
			{"Def:f(Block(Return(Name:@)))", "def f():\n    return @\n"}, {"Cond(Name:@ Block(Pass))", "if @:\n    pass\n"}, {"Cond(Name:a Block(Expr(Name:@)))", "if a:\n    @\n"},
			{"Cond(Name:a Block(Pass) Block(Cond(Name:@ Block(Pass))))", "if a:\n    pass\nelif @:\n    pass\n"}, {"Cond(Name:a Block(Pass) Block(Expr(Name:@)))", "if a:\n    pass\nelse:\n    @\n"},
			{"For(Name:@ Name:l Block(Pass))", "for @ in l:\n    pass\n"}, {"For(Name:x Name:l Block(Pass)) Expr(Name:@)", "for x in l:\n    pass\n@\n"}, {"Pass Pass AddTo(Name:@ Int:1)", "pass\npass\n@ += 1\n"},
		} {
			fill := strings.Repeat("a", size-len(x[1])+1)
			got, err := show.Text(tree("Block(" + strings.ReplaceAll(x[0], "@", fill) + ")"))
			fits(t, x, got, err, strings.ReplaceAll(x[1], "@", fill))
		}
	}
}

// P7.1: many parts in a row, as many as MaxText bytes have; one byte more is ErrLimit.
func TestLongRows(t *testing.T) {
	for _, x := range []struct{ tree, ahead, part, text, behind string }{
		{"Expr(List(Name:a @))", "[a", "Name:b", ", b", "]\n"}, {"Expr(Tuple(Name:a @))", "(a", "Name:b", ", b", ")\n"}, {"Expr(Call(Name:f Name:a @))", "f(a", "Name:b", ", b", ")\n"},
		{"Expr(Dict(Name:a Name:a @))", "{a: a", "Name:b Name:b", ", b: b", "}\n"}, {"Load:m(@)", `load("m"`, "Param:b(Str:b)", `, "b"`, ")\n"},
		{"@", "", "Expr(Name:b)", "b\n", ""}, {"Cond(Name:a Block(@))", "if a:\n", "Pass", "    pass\n", ""}, {"Cond(Name:a Block(Pass) Block(Pass @))", "if a:\n    pass\nelse:\n    pass\n", "Pass", "    pass\n", ""},
		{"For(Name:x Name:l Block(For(Name:x Name:l Block(@))))", "for x in l:\n    for x in l:\n", "Break", "        break\n", ""},
	} {
		for _, size := range near {
			fill := "pass\n" // and a name, ahead of all
			room := size - len(x.ahead+x.behind+fill) - len("a\n")
			n := room / len(x.text)
			name := strings.Repeat("a", 1+room%len(x.text))
			got, err := show.Text(tree("Block(Pass Expr(Name:" + name + ") " + strings.Replace(x.tree, "@", strings.TrimSpace(strings.Repeat(x.part+" ", n)), 1) + ")"))
			want := fill + name + "\n" + x.ahead + strings.Repeat(x.text, n) + x.behind
			if len(want) != size {
				t.Fatal(x, len(want), size)
			}
			fits(t, x.tree, got, err, want)
		}
	}
}

// nested is Blocks in Blocks, so deep, and a name in the innermost one; and their text.
func nested(deep int, name string) ([]api.Node, string) {
	var l []api.Node
	text, indent := "", ""
	for range deep {
		text += indent + "if a:\n"
		indent += "    "
		l = append(l, api.Node{Op: api.NName, S: "a"})
	}
	l = append(l, api.Node{Op: api.NName, S: name}, api.Node{Op: api.NExpr, Kids: []int{deep}}, api.Node{Op: api.NBlock, Kids: []int{deep + 1}})
	for i := range deep {
		l = append(l, api.Node{Op: api.NCond, Kids: []int{i, len(l) - 1}}, api.Node{Op: api.NBlock, Kids: []int{len(l)}})
	}
	return l, text + indent + name + "\n"
}

// P7.1: Blocks in Blocks to the limit.
func TestNestedToTheLimit(t *testing.T) {
	const deep = 100
	_, text := nested(deep, "")
	for _, size := range near {
		l, want := nested(deep, strings.Repeat("a", size-len(text)))
		got, err := show.Text(l)
		fits(t, size, got, err, want)
	}
	for deep := range 200 {
		l, want := nested(deep, "a")
		got, err := show.Text(l)
		fits(t, deep, got, err, want)
		if deep <= api.MaxDeep {
			turns(t, l, want)
		}
	}
}

// P7.1: as many Blocks in Blocks, and as many elifs, as a tree may have.
func TestLongBlocks(t *testing.T) {
	const many = 1 << 18
	inner := []api.Node{{Op: api.NPass}, {Op: api.NBlock, Kids: []int{0}}}
	l := slices.Clone(inner)
	for range many {
		l = append(l, api.Node{Op: api.NNone}, api.Node{Op: api.NCond, Kids: []int{len(l), len(l) - 1}}, api.Node{Op: api.NBlock, Kids: []int{len(l) + 1}})
	}
	got, err := show.Text(l)
	isFault(t, "if", got, err, api.ErrLimit)
	for _, n := range []int{2, 4000, 5000, many * 3 / 4} {
		l = slices.Clone(inner)
		for range n {
			at := len(l)
			l = append(l, api.Node{Op: api.NNone}, api.Node{Op: api.NPass}, api.Node{Op: api.NBlock, Kids: []int{at + 1}}, api.Node{Op: api.NCond, Kids: []int{at, at + 2, at - 1}}, api.Node{Op: api.NBlock, Kids: []int{at + 3}})
		}
		got, err := show.Text(l)
		fits(t, n, got, err, strings.Repeat("elif None:\n    pass\n", n)[2:]+"else:\n    pass\n")
	}
}

// P7.3: trees of texts that go as deep as MaxDeep lets them.
func TestDeepTurns(t *testing.T) {
	for _, c := range chains {
		for _, n := range []int{api.MaxDeep / 2, api.MaxDeep - 1, api.MaxDeep} {
			l := c.around([]api.Node{{Op: api.NName, S: "a"}}, n)
			text := c.text("a", n)
			isExpr(t, c, l, text)
			if _, err := parse.Expr(text); errors.Is(err, api.ErrLimit) && 2*n > api.MaxDeep {
				continue // two of a link may count
			}
			exprTurns(t, l, text)
		}
	}
}
