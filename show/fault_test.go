package show_test

import (
	"errors"
	"math/rand"
	"reflect"
	"slices"
	"testing"

	"smithy/api"
	"smithy/ast"
	"smithy/show"
)

// isFault holds an answer against an error that it has to have: no text, and that very class at that very place.
func isFault(t *testing.T, what any, text string, err, want error) {
	t.Helper()
	if text != "" || !reflect.DeepEqual(err, want) || want == nil {
		t.Errorf("%v: %.100q, %v; want %v", what, text, err, want)
	}
}

// faults checks that a tree has an ErrShape as a file, around that node, and is none for Text.
func faults(t *testing.T, what any, l []api.Node, node int) {
	t.Helper()
	text, err := show.Text(l)
	isFault(t, what, text, err, &api.At{Pos: node, Err: api.ErrShape})
	isFault(t, what, text, err, ast.Valid(l))
}

// exprFaults is likewise of an expression's tree.
func exprFaults(t *testing.T, what any, l []api.Node, node int) {
	t.Helper()
	text, err := show.Expr(l)
	isFault(t, what, text, err, &api.At{Pos: node, Err: api.ErrShape})
	isFault(t, what, text, err, ast.Valid(asFile(l)))
}

// P7.1: what ast.Valid does not take has its error.
func TestFaults(t *testing.T) {
	faults(t, "nil", nil, 0)
	faults(t, "empty", []api.Node{}, 0)
	for _, x := range []struct {
		tree string
		node int
	}{
		{"Pass", 0}, {"Name:a", 0}, {"Expr(Name:a)", 1}, {"Block", 0}, {"Block(Name:a)", 1}, {"Block(Block(Pass))", 2}, {"Block(Expr(Nothing))", 1}, {"Block(Expr(Arg:k(Name:a)))", 2},
		{"Block(Break)", 1}, {"Block(Continue)", 1}, {"Block(Return)", 1}, {"Block(Cond(Name:a Block(Load:m(Param:a(Str:a)))))", 6}, {"Block(Cond(Name:a Block(Def:f(Block(Pass)))))", 6},
		{"Block(Def:f(Param:a Param:a Block(Pass)))", 5}, {"Block(Def:f(Param:a(Int:1) Param:b Block(Pass)))", 6}, {"Block(Def:if(Block(Pass)))", 2}, {"Block(Expr(Name:1))", 0}, {"Block(Expr(Name))", 0},
		{"Block(Expr(Int:01))", 0}, {"Block(Expr(Int:x))", 0}, {"Block(Expr(Tuple:x))", 0}, {"Block(Pass:x)", 0}, {"Block(Load:m)", 0}, {"Block(Load:m(Param:a))", 1}, {"Block(Load:m(Param:a(Name:b)))", 2},
		{"Block(Assign(Int:1 Int:2))", 2}, {"Block(Assign(Tuple Int:2))", 2}, {"Block(AddTo(Tuple(Name:a) Int:2))", 3}, {"Block(For(Dot:n(Name:a) Name:l Block(Pass)))", 5}, {"Block(Expr(Dict(Name:a)))", 1},
		{"Block(Expr(Add(Name:a)))", 1}, {"Block(Expr(If(Name:a Name:b)))", 2}, {"Block(Expr(Comp(Name:a Int:1 Name:b)))", 3}, {"Block(Expr(Slice(Nothing Name:a Name:b)))", 3}, {"Block(Expr(Call(Name:f Arg:k(Int:1) Int:2)))", 4},
	} {
		faults(t, x.tree, tree(x.tree), x.node)
	}
	faults(t, "a kid twice", []api.Node{{Op: api.NPass}, {Op: api.NBlock, Kids: []int{0, 0}}}, 1)
	faults(t, "a kid behind", []api.Node{{Op: api.NNot, Kids: []int{1}}, {Op: api.NExpr, Kids: []int{0}}, {Op: api.NBlock, Kids: []int{1}}}, 0)
	faults(t, "nobody's kid", []api.Node{{Op: api.NPass}, {Op: api.NPass}, {Op: api.NBlock, Kids: []int{1}}}, 2)
	faults(t, "N", []api.Node{{Op: api.NPass, N: 1}, {Op: api.NBlock, Kids: []int{0}}}, 0)
	faults(t, "no Op", []api.Node{{Op: 99}, {Op: api.NBlock, Kids: []int{0}}}, 0)
}

// P7.1: the error of Expr is that of the nodes with an Expr and a Block laid behind.
func TestExprFaults(t *testing.T) {
	exprFaults(t, "nil", nil, 0)
	exprFaults(t, "empty", []api.Node{}, 0)
	for _, x := range []struct {
		tree string
		node int
	}{
		{"Pass", 1}, {"Block(Pass)", 2}, {"Expr(Name:a)", 2}, {"Nothing", 1}, {"Arg:k(Name:a)", 2}, {"Param:a", 1}, {"Name:if", 0}, {"Int:00", 0}, {"Add(Name:a Pass)", 2}, {"List(Nothing)", 1},
	} {
		exprFaults(t, x.tree, tree(x.tree), x.node)
	}
	exprFaults(t, "nobody's kid", []api.Node{{Op: api.NNone}, {Op: api.NNone}}, 3)
	exprFaults(t, "a statement ahead", []api.Node{{Op: api.NPass}, {Op: api.NNone}}, 3)
	exprFaults(t, "a kid twice", []api.Node{{Op: api.NNone}, {Op: api.NAdd, Kids: []int{0, 0}}}, 1)
	exprFaults(t, "a kid of what is laid behind", []api.Node{{Op: api.NNone}, {Op: api.NAdd, Kids: []int{0, 2}}}, 1)
}

// P7.1: a fault comes ahead of the limit, and is new each time.
func TestFaultsFirst(t *testing.T) {
	long := string(make([]byte, api.MaxText+1))
	faults(t, "long", []api.Node{{Op: api.NStr, S: long}, {Op: api.NExpr, Kids: []int{0}}}, 1)
	exprFaults(t, "long", []api.Node{{Op: api.NStr, S: long}, {Op: api.NNot, N: 1, Kids: []int{0}}}, 1)
	_, one := show.Text(nil)
	_, other := show.Text(nil)
	if a, b := new(api.At), new(api.At); !errors.As(one, &a) || !errors.As(other, &b) || a == b || !errors.Is(one, api.ErrShape) {
		t.Error(one, other)
	}
}

// P7.1: there are at most as many nodes as ast.Valid takes; for Expr it is two fewer.
func TestMany(t *testing.T) {
	const most = 1 << 20
	l := make([]api.Node, most+1)
	for i := range l {
		l[i] = api.Node{Op: api.NNone}
	}
	var kids []int
	for i := range most {
		kids = append(kids, i)
	}
	for _, n := range []int{most - 2, most - 1, most, most + 1} {
		l[n-1] = api.Node{Op: api.NList, Kids: kids[:n-1]}
		want := api.ErrMany
		if n <= most-2 {
			want = api.ErrLimit
		}
		text, err := show.Expr(l[:n])
		isFault(t, n, text, err, want)
		l[n-1] = api.Node{Op: api.NNone}
	}
	text, err := show.Text(l)
	isFault(t, most+1, text, err, api.ErrMany)
	faults(t, most, l[:most], most-1)
}

// turned is the nodes with something turned in them.
func turned(random *rand.Rand, l []api.Node) []api.Node {
	l = slices.Clone(l)
	for i := range l {
		l[i].Kids = slices.Clone(l[i].Kids)
	}
	at := random.Intn(len(l))
	switch kids := l[at].Kids; random.Intn(6) {
	case 0:
		l[at].Op = random.Intn(50) - 1
	case 1:
		l[at].S = []string{"", "x", "if", "0", "a b"}[random.Intn(5)]
	case 2:
		l[at].Kids = append(kids, random.Intn(len(l)))
	case 3:
		l[at].Kids = kids[:random.Intn(len(kids)+1)]
	case 4:
		if len(kids) > 0 {
			kids[random.Intn(len(kids))] = random.Intn(len(l)+2) - 1
		}
	case 5:
		l = slices.Delete(l, at, at+1)
	}
	return l
}

// P7.1: of random trees with something turned in them the error is that of ast.Valid, or there is a text.
func TestTurned(t *testing.T) {
	random := rand.New(rand.NewSource(7))
	wrong, right := 0, 0
	for range 3000 {
		l := turned(random, randomFile(random, 3))
		text, err := show.Text(l)
		if want := ast.Valid(l); want != nil {
			isFault(t, l, text, err, want)
			wrong++
		} else {
			isText(t, l, l, plain(l, len(l)-1)+"\n")
			right++
		}
		l = turned(random, randomExpr(random, 3))
		text, err = show.Expr(l)
		if want := ast.Valid(asFile(l)); want != nil {
			isFault(t, l, text, err, want)
		} else {
			isExpr(t, l, l, plain(l, len(l)-1))
		}
	}
	if wrong < 500 || right < 500 {
		t.Error(wrong, right)
	}
}

// P0.4: the nodes that are passed in stay as they are, and so does what lies behind them.
func TestNodesStay(t *testing.T) {
	random := rand.New(rand.NewSource(17))
	for range 300 {
		for _, l := range [][]api.Node{randomFile(random, 3), randomExpr(random, 3), {}} {
			room := append(slices.Clone(l), api.Node{Op: 71, N: 72, Pos: 73, S: "74", Kids: []int{75}}, api.Node{Op: 76}, api.Node{Op: 77})
			for i := range room {
				room[i].Kids = append(slices.Clone(room[i].Kids), 78, 79)[:len(room[i].Kids)]
			}
			before := copied(room)
			show.Text(room[:len(l)])
			show.Expr(room[:len(l)])
			if !reflect.DeepEqual(room, before) {
				t.Fatalf("%v was %v", room, before)
			}
			for i, node := range room {
				if rest := node.Kids[:len(node.Kids)+2]; !slices.Equal(rest[len(node.Kids):], []int{78, 79}) {
					t.Fatal("behind the kids of", i, rest)
				}
			}
		}
	}
}

func copied(l []api.Node) []api.Node {
	l = slices.Clone(l)
	for i := range l {
		l[i].Kids = slices.Clone(l[i].Kids)
	}
	return l
}
