package ast_test

import (
	"slices"
	"strings"
	"testing"

	"smithy/api"
	"smithy/ast"
)

// bare is nodes of no Op, with these kids.
func bare(kids ...[]int) []api.Node {
	var l []api.Node
	for _, k := range kids {
		l = append(l, api.Node{Kids: k})
	}
	return l
}

// noTrees are lists that are no trees.
func noTrees() [][]api.Node {
	return [][]api.Node{
		nil, {}, bare(nil, nil), bare(nil, nil, nil), bare(nil, nil, []int{0}), bare(nil, nil, []int{1}), bare(nil, []int{0}, nil),
		bare([]int{0}), bare([]int{-1}), bare([]int{1}), bare(nil, []int{1}), bare(nil, []int{0, 1}), bare(nil, []int{-1, 0}), bare(nil, []int{0, 2}),
		bare(nil, []int{0, 0}), bare(nil, []int{0}, []int{0, 1}), bare(nil, []int{0}, []int{0}), bare(nil, []int{0}, []int{1, 1}),
		bare([]int{1}, []int{0}), bare([]int{1}, nil), bare(nil, []int{2}, []int{0, 1}), bare(nil, []int{0}, []int{1}, nil),
		bare(nil, []int{1<<63 - 1}), bare(nil, []int{-1 << 63}), bare(nil, []int{0}, []int{1 << 32}),
	}
}

// P5.2, P5.1: of what is no tree there is no depth, and nothing is the same.
func TestNoTrees(t *testing.T) {
	for i, l := range noTrees() {
		if got := ast.Deep(l); got != 0 {
			t.Error(i, "Deep", got)
		}
		for k, other := range append(noTrees(), bare(nil), block(pass())) {
			if ast.Same(l, other) || ast.Same(other, l) {
				t.Error(i, k, "Same")
			}
		}
		if err := ast.Valid(l); err == nil {
			t.Error(i, "Valid")
		}
	}
}

// P5.1: the longest way down, of one node and of more, whatever they are.
func TestDeep(t *testing.T) {
	for i, x := range []struct {
		l    []api.Node
		want int
	}{
		{bare(nil), 1},
		{pass(), 1},
		{[]api.Node{{Op: 99, N: 7, S: "?"}}, 1},
		{bare(nil, []int{0}), 2},
		{bare(nil, []int{0}, []int{1}), 3},
		{block(expr(name("x"))), 3},
		{bare(nil, nil, []int{0, 1}), 2},
		{bare(nil, nil, []int{1, 0}), 2},
		{bare(nil, nil, nil, nil, []int{3, 1, 0, 2}), 2},
		{bare(nil, nil, []int{1}, []int{0, 2}), 3},
		{bare(nil, nil, []int{1}, []int{2, 0}), 3},
		{bare(nil, []int{0}, nil, []int{1, 2}), 3},
		{bare(nil, []int{0}, []int{1}, nil, []int{3}, []int{2, 4}), 4},
		{bare(nil, nil, []int{0}, []int{1}, []int{2}, []int{3, 4}), 4},
		{bare(nil, nil, []int{0}, []int{1}, []int{2}, []int{4, 3}), 4},
		{block(loop(cond(block(pass()))), pass()), 6},
	} {
		if got := ast.Deep(x.l); got != x.want {
			t.Error(i, got, "not", x.want)
		}
	}
}

// P5.1, P5.2: a tree as deep as it is long, and one as wide.
func TestLongTrees(t *testing.T) {
	const n = 1<<20 + 5
	row := make([]api.Node, n)
	for i := 1; i < n; i++ {
		row[i] = api.Node{Op: api.NNot, Kids: []int{i - 1}}
	}
	row[0] = api.Node{Op: api.NName, S: "x"}
	if got := ast.Deep(row); got != n {
		t.Error(got)
	}
	if !ast.Same(row, slices.Clone(row)) || ast.Same(row, row[:n-1]) {
		t.Error("a row")
	}
	other := slices.Clone(row)
	other[0].S = "y"
	if ast.Same(row, other) {
		t.Error("a row that ends otherwise")
	}
	deepest := slices.Clone(row[:1<<20])
	deepest[1<<20-2] = api.Node{Op: api.NExpr, Kids: []int{1<<20 - 3}}
	deepest[1<<20-1] = api.Node{Op: api.NBlock, Kids: []int{1<<20 - 2}}
	valid(t, "a row", deepest)
	wide := make([]api.Node, n)
	for i := range n - 1 {
		wide[n-1].Kids = append(wide[n-1].Kids, n-2-i)
	}
	if got := ast.Deep(wide); got != 2 || !ast.Same(wide, wide) {
		t.Error(got)
	}
}

// P5.2: a tree is the same as itself, with other Pos and in other places.
func TestSame(t *testing.T) {
	one := block(loop(cond(block(pass())), join(api.NAssign, "", name("x"), join(api.NSub, "", name("a"), name("b")))), expr(text("")))
	if !ast.Same(one, one) {
		t.Error("itself")
	}
	moved := slices.Clone(one)
	for i := range moved {
		moved[i].Pos = i*7 - 3
	}
	if !ast.Same(one, moved) || !ast.Same(moved, one) {
		t.Error("other Pos")
	}
	for i, x := range []struct{ a, b []api.Node }{
		{[]api.Node{{S: "a"}, {S: "b"}, {Kids: []int{0, 1}}}, []api.Node{{S: "b"}, {S: "a"}, {Kids: []int{1, 0}}}},
		{[]api.Node{{S: "a"}, {Kids: []int{0}}, {S: "b"}, {Kids: []int{1, 2}}}, []api.Node{{S: "a"}, {S: "b"}, {Kids: []int{0}}, {Kids: []int{2, 1}}}},
		{[]api.Node{{S: "a"}, {Kids: []int{0}}, {S: "b"}, {Kids: []int{1, 2}}}, []api.Node{{S: "b"}, {S: "a"}, {Kids: []int{1}}, {Kids: []int{2, 0}}}},
		{[]api.Node{{Kids: nil}}, []api.Node{{Kids: []int{}}}},
		{[]api.Node{{Op: 99, N: -5, S: "?"}}, []api.Node{{Op: 99, N: -5, S: "?", Pos: 1}}},
	} {
		if !ast.Same(x.a, x.b) || !ast.Same(x.b, x.a) {
			t.Error(i)
		}
	}
}

// P5.2: with one Op, N, S or kid turned it is another one.
func TestNotSame(t *testing.T) {
	one := block(loop(cond(block(pass())), join(api.NAssign, "", name("x"), join(api.NSub, "", name("a"), name("b")))), expr(text("")))
	differs := func(what any, other []api.Node) {
		t.Helper()
		if ast.Same(one, other) || ast.Same(other, one) {
			t.Error(what)
		}
	}
	for i := range one {
		for _, turn := range []func(node *api.Node){
			func(node *api.Node) { node.Op++ },
			func(node *api.Node) { node.N = 1 },
			func(node *api.Node) { node.S += "z" },
		} {
			other := slices.Clone(one)
			turn(&other[i])
			differs(i, other)
		}
		for k := 1; k < len(one[i].Kids); k++ {
			other := slices.Clone(one)
			kids := slices.Clone(one[i].Kids)
			kids[k-1], kids[k] = kids[k], kids[k-1]
			other[i].Kids = kids
			differs([]int{i, k}, other)
		}
	}
	differs("one more", block(append([][]api.Node{one}, pass())...))
	differs("a kid of it", one[:len(one)-1])
	differs("a leaf", pass())
	same := func(a, b []api.Node) bool { return ast.Same(a, b) || ast.Same(b, a) }
	for i, x := range []struct{ a, b []api.Node }{
		{bare(nil, []int{0}, nil, []int{1, 2}), bare(nil, nil, []int{1}, []int{0, 2})},
		{bare(nil, nil, []int{0, 1}), bare(nil, []int{0}, []int{1})},
		{bare(nil, nil, []int{0, 1}), bare(nil, nil, nil, []int{0, 1, 2})},
		{bare(nil, []int{0}), bare(nil)},
		{[]api.Node{{S: "a"}, {S: "b"}, {Kids: []int{0, 1}}}, []api.Node{{S: "a"}, {S: "b"}, {Kids: []int{1, 0}}}},
		{[]api.Node{{S: "a"}}, []api.Node{{S: "a\x00"}}},
		{number("1"), text("1")},
	} {
		if same(x.a, x.b) {
			t.Error("apart", i)
		}
	}
}

// P5.2: a node's kids, whatever they are; none of no node.
func TestKids(t *testing.T) {
	l := []api.Node{{Kids: []int{7, -1, 7}}, {}, {Op: api.NAdd, Kids: []int{1, 0}}}
	for i, want := range [][]int{{7, -1, 7}, {}, {1, 0}} {
		if got := ast.Kids(l, i); !slices.Equal(got, want) {
			t.Error(i, got)
		}
	}
	for _, i := range []int{-1, 3, 4, -2, 100, 1<<63 - 1, -1 << 63, 1 << 32} {
		if got := ast.Kids(l, i); len(got) != 0 {
			t.Error(i, got)
		}
	}
	if len(ast.Kids(nil, 0)) != 0 || len(ast.Kids(l[:2], 2)) != 0 {
		t.Error("of no node")
	}
}

// P5.2: what Names say, each once, by bytes; of no other node.
func TestNames(t *testing.T) {
	names := func(l ...string) []api.Node {
		var nodes []api.Node
		for _, s := range l {
			nodes = append(nodes, name(s)...)
		}
		return nodes
	}
	for i, x := range []struct {
		l    []api.Node
		want string
	}{
		{nil, ""},
		{pass(), ""},
		{names("x"), "x"},
		{names("x", "x"), "x"},
		{names("b", "a", "b", "a", "b"), "a b"},
		{names("a", "B", "_", "a1", "a_", "aa", "A", "Z", "z9", "a0"), "A B Z _ a a0 a1 a_ aa z9"},
		{names("\xff", "\u00e4", "z", "~"), "z ~ \u00e4 \xff"},
		{names("if", "1", "?"), "1 ? if"},
		{block(join(api.NLoad, "m", join(api.NParam, "p", text("s")))), ""},
		{block(join(api.NDef, "f", join(api.NParam, "p", name("v")), block(expr(join(api.NCall, "", join(api.NDot, "d", name("o")), join(api.NArg, "k", number("1"))))))), "o v"},
		{block(join(api.NAssign, "", join(api.NTuple, "", name("b"), name("a")), join(api.NComp, "", name("c"), name("c"), name("a")))), "a b c"},
		{[]api.Node{{Op: api.NStr, S: "x"}, {Op: api.NInt, S: "1"}, {Op: 0, S: "y"}, {Op: api.NName, S: "z", N: 4, Kids: []int{9}}}, "z"},
	} {
		if got := ast.Names(x.l); !slices.Equal(got, strings.Fields(x.want)) {
			t.Error(i, got)
		}
	}
	if got := ast.Names(names("", "a", "")); !slices.Equal(got, []string{"", "a"}) {
		t.Error(got)
	}
}

// roomy is the list with room behind it and behind all kids, all of it filled with what is no tree.
func roomy(l []api.Node) []api.Node {
	out := slices.Grow([]api.Node(nil), len(l)+4)
	for _, node := range l {
		kids := slices.Grow([]int(nil), len(node.Kids)+4)
		for len(kids) < cap(kids) {
			kids = append(kids, -7)
		}
		copy(kids, node.Kids)
		node.Kids = kids[:len(node.Kids)]
		out = append(out, node)
	}
	for len(out) < cap(out) {
		out = append(out, api.Node{Op: -7, N: -7, S: "-7", Kids: []int{-7}})
	}
	return out[:len(l)]
}

// tellAll is all that is in a list, and in the room behind it and behind all kids.
func tellAll(l []api.Node) []any {
	var out []any
	for _, node := range l[:cap(l)] {
		out = append(out, node.Op, node.N, node.Pos, node.S, len(node.Kids))
		for _, kid := range node.Kids[:cap(node.Kids)] {
			out = append(out, kid)
		}
	}
	return out
}

// P0.4 of P5.1, P5.2: no call changes what it is given, or reads what lies behind it.
func TestNothingChanged(t *testing.T) {
	good := block(loop(join(api.NBreak, "")), defWith("b", "a="), load(), expr(join(api.NAdd, "", name("z"), name("a"))))
	for i, l := range append(noTrees(), good, block(defWith("b", "a", "b")), block(expr(name("if"))), good[:len(good)-1]) {
		given, other := roomy(l), roomy(good)
		before, same := tellAll(given), tellAll(other)
		err := ast.Valid(given)
		if want := ast.Valid(l); (err == nil) != (want == nil) || err != nil && err.Error() != want.Error() {
			t.Error(i, "Valid", err, want)
		}
		if ast.Deep(given) != ast.Deep(l) || ast.Same(given, other) != ast.Same(l, good) || ast.Same(other, given) != ast.Same(good, l) {
			t.Error(i, "Deep, Same")
		}
		if !slices.Equal(ast.Names(given), ast.Names(l)) || !slices.Equal(ast.Kids(given, 0), ast.Kids(l, 0)) || len(ast.Kids(given, len(l))) != 0 {
			t.Error(i, "Names, Kids")
		}
		if !slices.Equal(tellAll(given), before) || !slices.Equal(tellAll(other), same) {
			t.Error(i, "changed")
		}
	}
}

// P0.4 of P5.2: what is handed out is new memory, its spare room, too.
func TestNewMemory(t *testing.T) {
	l := roomy([]api.Node{{Op: api.NName, S: "x"}, {Op: api.NName, S: "y"}, {Op: api.NAdd, Kids: []int{0, 1}}, {}})
	before := tellAll(l)
	for i := range l {
		first, second := ast.Kids(l, i), ast.Kids(l, i)
		for k := range first {
			first[k] = 99
		}
		for k := range cap(first) {
			first[:cap(first)][k] = 99
		}
		if !slices.Equal(second, l[i].Kids) || slices.Contains(second[:cap(second)], 99) || !slices.Equal(tellAll(l), before) {
			t.Error(i, "Kids")
		}
	}
	first, second := ast.Names(l), ast.Names(l)
	for k := range cap(first) {
		first[:cap(first)][k] = "z"
	}
	if !slices.Equal(second, []string{"x", "y"}) || slices.Contains(second[:cap(second)], "z") || !slices.Equal(tellAll(l), before) || !slices.Equal(ast.Names(l), []string{"x", "y"}) {
		t.Error("Names")
	}
}

// P0.4 of P5.1: a fault is new each time.
func TestNewFaults(t *testing.T) {
	first, second := ast.Valid(nil), ast.Valid(pass())
	first.(*api.At).Pos, first.(*api.At).Err = 5, nil
	if at := second.(*api.At); at.Pos != 0 || at.Err != api.ErrShape {
		t.Error(at.Pos)
	}
	faults(t, "again", nil, 0)
}
