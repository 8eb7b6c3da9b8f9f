package ast_test

import (
	"slices"
	"strconv"
	"strings"
	"testing"

	"smithy/api"
	"smithy/ast"
)

func cond(blocks ...[]api.Node) []api.Node {
	return join(api.NCond, "", append([][]api.Node{name("c")}, blocks...)...)
}

func loop(statements ...[]api.Node) []api.Node {
	return join(api.NFor, "", name("x"), name("l"), block(statements...))
}

func def(statements ...[]api.Node) []api.Node {
	return join(api.NDef, "f", block(statements...))
}

func load() []api.Node {
	return join(api.NLoad, "m", join(api.NParam, "a", text("b")))
}

// defWith is a Def with these Params: a name each, with `=` behind it one with a value.
func defWith(params ...string) []api.Node {
	var kids [][]api.Node
	for _, p := range params {
		if bare, is := strings.CutSuffix(p, "="); is {
			kids = append(kids, join(api.NParam, bare, number("1")))
			continue
		}
		kids = append(kids, join(api.NParam, p))
	}
	return join(api.NDef, "f", append(kids, block(pass()))...)
}

// misplaced checks that all nodes have their form, but one of them may not stand where it does: the last one has the fault.
func misplaced(t *testing.T, what any, l []api.Node) {
	t.Helper()
	faults(t, what, l, len(l)-1)
	formed(t, what, l)
}

// P5.1: no node is no tree.
func TestNoNodes(t *testing.T) {
	faults(t, "nil", nil, 0)
	faults(t, "empty", []api.Node{}, 0)
	faults(t, "empty, with room", block(pass())[:0], 0)
}

// P5.1: at most 2^20 nodes; of more it is ErrMany, whatever they are.
func TestMany(t *testing.T) {
	const most = 1 << 20
	l := make([]api.Node, most+1)
	for i := range l {
		l[i].Op = api.NPass
	}
	var kids []int
	for i := range most {
		kids = append(kids, i)
	}
	l[most-1] = api.Node{Op: api.NBlock, Kids: kids[:most-1]}
	valid(t, "2^20", l[:most])
	l[0].N = 1
	faults(t, "2^20, with a fault", l[:most], 0)
	if err := ast.Valid(l); err != api.ErrMany {
		t.Error(err)
	}
	l[0].N, l[most-1] = 0, l[0]
	l[most-1].N = 0
	l[most] = api.Node{Op: api.NBlock, Kids: kids}
	if err := ast.Valid(l); err != api.ErrMany {
		t.Error(err)
	}
	if err := ast.Valid(make([]api.Node, 3*most)); err != api.ErrMany {
		t.Error(err)
	}
	if got := ast.Deep(l); got != 2 {
		t.Error("Deep has no such limit:", got)
	}
}

// P5.1: kids lie ahead of their node.
func TestKidsAhead(t *testing.T) {
	for _, kid := range []int{1, 2, 3, 4, 100, -1, -2, 1<<63 - 1, -1 << 63, 1 << 32} {
		l := block(expr(join(api.NNot, "", name("x"))))
		l[1].Kids = []int{kid}
		faults(t, kid, l, 1)
	}
	for _, kid := range []int{0, 1, -1} {
		faults(t, kid, []api.Node{{Op: api.NNot, Kids: []int{kid}}, {Op: api.NExpr, Kids: []int{0}}, {Op: api.NBlock, Kids: []int{1}}}, 0)
	}
	faults(t, "in a row", []api.Node{{Op: api.NPass}, {Op: api.NPass}, {Op: api.NBlock, Kids: []int{0, 2, 1}}}, 2)
	faults(t, "in a row", []api.Node{{Op: api.NPass}, {Op: api.NPass}, {Op: api.NBlock, Kids: []int{0, 1, 3}}}, 2)
	faults(t, "below 0", []api.Node{{Op: api.NPass}, {Op: api.NPass}, {Op: api.NBlock, Kids: []int{0, 1, -1}}}, 2)
	faults(t, "the Nothings of a Slice", []api.Node{{Op: api.NName, S: "x"}, {Op: api.NSlice, Kids: []int{0, -1, -1}}}, 1)
}

// P5.1: each node is a kid once: not twice of one node, and not of two; the second one has the fault.
func TestKidsOnce(t *testing.T) {
	x := api.Node{Op: api.NName, S: "x"}
	node := func(op int, kids ...int) api.Node { return api.Node{Op: op, Kids: kids} }
	faults(t, "of one", []api.Node{x, node(api.NAdd, 0, 0), node(api.NExpr, 1), node(api.NBlock, 2)}, 1)
	faults(t, "of one, apart", []api.Node{x, x, node(api.NList, 0, 1, 0), node(api.NExpr, 2), node(api.NBlock, 3)}, 2)
	faults(t, "of two", []api.Node{x, node(api.NExpr, 0), node(api.NExpr, 0), node(api.NBlock, 1, 2)}, 2)
	faults(t, "of two, one above the other", []api.Node{x, node(api.NNot, 0), node(api.NAdd, 0, 1), node(api.NExpr, 2), node(api.NBlock, 3)}, 2)
	faults(t, "Passes", []api.Node{node(api.NPass), node(api.NBlock, 0, 0)}, 1)
	faults(t, "Blocks", []api.Node{x, node(api.NPass), node(api.NBlock, 1), node(api.NCond, 0, 2, 2), node(api.NBlock, 3)}, 3)
	faults(t, "of the last one", []api.Node{node(api.NPass), node(api.NBlock, 0), x, node(api.NCond, 2, 1), node(api.NBlock, 3, 0)}, 4)
}

// P5.1: every node but the last one is a kid; else the last one has the fault.
func TestNobodysKid(t *testing.T) {
	for i := range 4 {
		l := block(pass(), expr(name("x")))
		l = slices.Insert(l, i, api.Node{Op: api.NPass})
		for n := range l {
			for k := range l[n].Kids {
				if l[n].Kids[k] >= i {
					l[n].Kids[k]++
				}
			}
		}
		faults(t, i, l, 4)
	}
	faults(t, "behind the whole", append(block(pass()), pass()...), 2)
	faults(t, "two wholes", append(block(pass()), api.Node{Op: api.NBlock, Kids: []int{}}), 2)
	two := []api.Node{{Op: api.NPass}, {Op: api.NBlock, Kids: []int{0}}, {Op: api.NPass}, {Op: api.NBlock, Kids: []int{2}}}
	faults(t, "two right ones", two, 3)
	faults(t, "Nothing", []api.Node{{Op: api.NNothing}, {Op: api.NPass}, {Op: api.NBlock, Kids: []int{1}}}, 2)
	faults(t, "an Arg", []api.Node{{Op: api.NNone}, {Op: api.NArg, S: "k", Kids: []int{0}}, {Op: api.NPass}, {Op: api.NBlock, Kids: []int{2}}}, 3)
}

// P5.1: the whole is a Block.
func TestWhole(t *testing.T) {
	for _, f := range forms {
		for _, row := range rows(f.right) {
			l := of(f.op, f.s, row)
			if f.op == api.NBlock {
				valid(t, row, l)
				continue
			}
			faults(t, []any{f.op, row}, l, len(l)-1)
		}
	}
	valid(t, "the chapter's", []api.Node{{Op: api.NName, S: "x"}, {Op: api.NExpr, Kids: []int{0}}, {Op: api.NBlock, Kids: []int{1}}})
}

// P5.1: nodes may lie in any order, as long as kids lie ahead.
func TestAnyOrder(t *testing.T) {
	valid(t, "kids turned", []api.Node{{Op: api.NPass}, {Op: api.NPass}, {Op: api.NBlock, Kids: []int{1, 0}}})
	valid(t, "leaves first", []api.Node{
		{Op: api.NPass}, {Op: api.NInt, S: "1"}, {Op: api.NName, S: "x"}, {Op: api.NBreak},
		{Op: api.NBlock, Kids: []int{3, 0}}, {Op: api.NFor, Kids: []int{2, 1, 4}}, {Op: api.NBlock, Kids: []int{5}},
	})
}

// P5.1: Break and Continue stand in a For alone, and in the same Def as it.
func TestBreaks(t *testing.T) {
	for _, op := range []int{api.NBreak, api.NContinue} {
		b := join(op, "")
		for i, l := range [][]api.Node{
			loop(b), loop(pass(), b), loop(b, b), loop(cond(block(b))), loop(cond(block(pass()), block(b))), loop(loop(b)), loop(loop(pass()), b),
			cond(block(loop(b))), def(loop(b)), def(loop(cond(block(pass(), b)))), def(cond(block(loop(b)))), loop(cond(block(cond(block(b))))),
		} {
			valid(t, []int{op, i}, block(l))
			valid(t, []int{op, i}, block(pass(), l, pass()))
		}
		for i, l := range [][]api.Node{
			b, cond(block(b)), cond(block(pass()), block(b)), def(b), def(cond(block(b))), loop(def(b)), def(def(loop(b))), loop(cond(block(def(b)))),
		} {
			misplaced(t, []int{op, i}, block(l))
			misplaced(t, []int{op, i}, block(loop(pass()), l))
			misplaced(t, []int{op, i}, block(l, loop(pass()), pass()))
		}
		misplaced(t, op, block(loop(pass()), b))
		misplaced(t, op, block(loop(b), b))
		misplaced(t, op, block(def(loop(b), b)))
		misplaced(t, op, block(def(loop(b)), b))
	}
}

// P5.1: Return stands in a Def alone.
func TestReturns(t *testing.T) {
	for _, r := range [][]api.Node{join(api.NReturn, ""), join(api.NReturn, "", number("1"))} {
		for i, l := range [][]api.Node{
			def(r), def(pass(), r, r), def(cond(block(r))), def(cond(block(pass()), block(r))), def(loop(r)), def(loop(cond(block(r)))), def(loop(loop(pass()), r)),
		} {
			valid(t, i, block(l))
			valid(t, i, block(pass(), l, pass()))
		}
		for i, l := range [][]api.Node{
			r, cond(block(r)), cond(block(pass()), block(r)), loop(r), loop(cond(block(r))), loop(loop(r)),
		} {
			misplaced(t, i, block(l))
			misplaced(t, i, block(def(r), l))
			misplaced(t, i, block(l, def(r)))
		}
	}
}

// P5.1: Load and Def stand in the whole Block alone, not within another statement.
func TestLoadsAndDefs(t *testing.T) {
	for i, l := range [][]api.Node{load(), def(pass())} {
		valid(t, i, block(l))
		valid(t, i, block(pass(), l, pass(), l))
		valid(t, i, block(load(), l, def(pass())))
		misplaced(t, i, block(cond(block(l))))
		misplaced(t, i, block(cond(block(pass()), block(l))))
		misplaced(t, i, block(cond(block(l), block(pass()))))
		misplaced(t, i, block(loop(l)))
		misplaced(t, i, block(def(l)))
		misplaced(t, i, block(def(pass(), l)))
		misplaced(t, i, block(def(cond(block(l)))))
		misplaced(t, i, block(l, loop(cond(block(l)))))
	}
}

// P5.1: Params of one Def have unlike names, wherever they stand; those of two may be alike.
func TestParamNames(t *testing.T) {
	for _, params := range []string{"", "a", "a=", "a b", "b a", "a A aa", "a b=", "f", "a= b= c="} {
		valid(t, params, block(defWith(strings.Fields(params)...)))
	}
	for _, params := range []string{"a a", "a b a", "b a a", "a a=", "a= a=", "a b c= d= b=", "_ _", "f f"} {
		misplaced(t, params, block(defWith(strings.Fields(params)...)))
		misplaced(t, params, block(defWith("a"), defWith(strings.Fields(params)...), defWith("a")))
	}
	valid(t, "of two", block(defWith("a", "b"), defWith("a", "b"), defWith("b", "a=")))
	valid(t, "as other names", block(join(api.NDef, "a", join(api.NParam, "a"), block(expr(name("a")))), expr(name("a"))))
	var many []string
	for i := range 3000 {
		many = append(many, "p"+strconv.Itoa(i))
	}
	valid(t, "many", block(defWith(many...)))
	misplaced(t, "many, and one again", block(defWith(append(many, "p1500=")...)))
}

// P5.1: no Param without a value stands behind one with.
func TestParamValues(t *testing.T) {
	for _, params := range []string{"a b= c=", "a b c=", "a=", "a b c"} {
		valid(t, params, block(defWith(strings.Fields(params)...)))
	}
	for _, params := range []string{"a= b", "a b= c", "a= b c=", "a= b= c", "a b= c= d e="} {
		misplaced(t, params, block(defWith(strings.Fields(params)...)))
	}
	valid(t, "of two", block(defWith("a="), defWith("b")))
	valid(t, "of a Load", block(load(), defWith("b")))
}

// P5.1: of several faults that of the first node, and those of the last one last.
func TestFirstFault(t *testing.T) {
	bad := name("if")
	faults(t, "two", block(expr(bad), expr(bad)), 0)
	faults(t, "the second statement's", block(expr(name("x")), expr(bad)), 2)
	faults(t, "a kid's, then its node's", join(api.NNot, "x", bad), 0)
	faults(t, "a node's, then one's behind", append(join(api.NNot, "x", name("x")), bad...), 1)
	faults(t, "a form, and what may not stand there", block(join(api.NBreak, ""), expr(bad)), 1)
	params := defWith("a", "a")
	faults(t, "a form, and Params", block(params, expr(bad)), len(params))
	alone := []api.Node{{Op: api.NPass}, {Op: api.NName, S: "if"}, {Op: api.NExpr, Kids: []int{1}}, {Op: api.NBlock, Kids: []int{2}}}
	faults(t, "a form, and nobody's kid", alone, 1)
	l := block(pass(), expr(name("x")), pass())
	l[0].N, l[3].N = 1, 1
	faults(t, "N of two", l, 0)
	l[0].N = 0
	faults(t, "N of the second", l, 3)
	l[4].Kids[0] = 9
	faults(t, "N, and a kid", l, 3)
	l[3].N = 0
	faults(t, "a kid", l, 4)
	faults(t, "a kid twice, and N behind", []api.Node{{Op: api.NName, S: "x"}, {Op: api.NAdd, Kids: []int{0, 0}}, {Op: api.NPass, N: 1}}, 1)
}
