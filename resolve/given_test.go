package resolve_test

import (
	"strconv"
	"testing"

	"smithy/api"
	"smithy/ast"
	"smithy/resolve"
)

// P8.1: of the predeclared names the slot is the place, of several the first.
func TestPredeclared(t *testing.T) {
	says(t, "x", "x:p0", "0/0", "x")
	says(t, "c\nb\na", "c:p2 b:p1 a:p0", "0/0", "a", "b", "c")
	says(t, "a + b + b", "a:p1 b:p0 b:p0", "0/0", "b", "a", "b", "a", "b")
	says(t, "b", "b:p2", "0/0", "", "if", "b", "", "b")
	says(t, "x = 1", "x:g0", "0/0 x", []string{}...)
	says(t, "x[0] = y.z(k = w)", "x:p3 y:p2 w:p1", "0/0", "z", "w", "y", "x", "k")
	says(t, "def f(): return x", "x:p1", "0/0 f; 0/0", "y", "x")
	says(t, "[x for y in x]", "x:p0 y:l0 x:p0", "0/1", "x", "y")
	faults(t, "^x")
	faults(t, "^x", "y", "xx", "X", "x ", "")
	faults(t, "a\nb\n^c", "a", "b", "d")
	var many []string
	for i := range 5000 {
		many = append(many, "p"+strconv.Itoa(i%2500))
	}
	says(t, "p0\np2499\np17", "p0:p0 p2499:p2499 p17:p17", "0/0", many...)
}

// P8.1: what the whole binds comes ahead of what is predeclared, and what is a local ahead of both.
func TestPredeclaredHidden(t *testing.T) {
	says(t, "x\ny\nx = 1", "x:g0 y:p1 x:g0", "0/0 x", "x", "y")
	says(t, "def x(): return x\nload('m', 'y')\nfor z in y: pass\nw += 1\n(x, y, z, w, v)", "x:g0 z:g2 y:g1 w:g3 x:g0 y:g1 z:g2 w:g3 v:p4", "0/0 x y z w; 0/0", "x", "y", "z", "w", "v")
	says(t, "def f(x):\n y = x\n return x, y, z\nx", "y:l1 x:l0 x:l0 y:l1 z:p2 x:p0", "0/0 f; 1/2 x y", "x", "y", "z")
	says(t, "def f(): x = 1\nx", "x:l0 x:p1", "0/0 f; 0/1 x", "f", "x")
	says(t, "def f(): return x\nx = 1", "x:g1 x:g1", "0/0 f x; 0/0", "x")
}

// P8.1: of several Names that are bound nowhere the first node has the fault, and it is its Pos that is told.
func TestFirstUnbound(t *testing.T) {
	faults(t, "^a + b")
	faults(t, "x = ^a\ny = b")
	faults(t, "x = 1\nx(^a, k = b)")
	faults(t, "def f(): return ^a\nb")
	faults(t, "^b\ndef f(): return a")
	faults(t, "1 if ^a else b")
	faults(t, "^b if a else 1")
	faults(t, "[^b for c in a]")
	faults(t, "[1 for ^b[a] in a]")
	faults(t, "a\n^b\nc", "a", "c")
	faults(t, "(  ^a)")
	unbound(t, "the first node, not Pos", laid("Name:b Name:a Add,1,0 Expr,2 Block,3"), 500)
	unbound(t, "the first node, not the first statement", laid("Name:x Name:a Expr,1 Expr,0 Block,2,3"), 500)
	unbound(t, "in a Def, which stands last", laid("Name:a Return,0 Block,1 Name:b Expr,3 Def:f,2 Block,4,5"), 500)
	unbound(t, "in the whole, which has the Def first", laid("Name:b Expr,0 Name:a Return,2 Block,3 Def:f,4 Block,5,1"), 500)
	unbound(t, "what a Comp goes over", laid("Name:q Name:p Name:a Comp,1,2,0 Expr,3 Block,4"), 500)
	unbound(t, "the third", laid("Name:a Name:b Name:c Tuple,0,1,2 Expr,3 Block,4"), 494, "b", "a")
	for _, pos := range []int{0, 1, -1, -1 << 63, 1<<63 - 1} {
		l := laid("Name:a Expr,0 Block,1")
		l[0].Pos = pos
		unbound(t, pos, l, pos)
	}
}

// P8.1: what ast.Valid does not take has its error, ahead of any name.
func TestNotValid(t *testing.T) {
	for _, l := range [][]api.Node{
		nil, {}, laid("Pass"), laid("Name:a"), laid("Name:a Expr,0"), laid("Block"), laid("Pass Block,0,0"), laid("Pass Pass Block,1"), laid("Name:a Pass Block,1"), laid("Name:a Expr,0 Break Block,1,2"),
		laid("Name:a Expr,0 Return Block,1,2"), laid("Name:if Expr,0 Block,1"), laid("Name:a Name:b Assign,0 Block,2"), laid("Int:1 Int:2 Assign,0,1 Block,2"), laid("Name:a Tuple,0 Int:1 AddTo,1,2 Block,3"),
		laid("Param:a Param:a Pass Block,2 Def:f,0,1,3 Block,4"), laid("Name:q Param:a Load:m,1 Expr,0 Block,2,3"), laid("Name:a Tuple Name:b Comp,0,1,2 Expr,3 Block,4"), laid("Name:a Name:b Comp,0,1 Expr,2 Block,3"),
		laid("Pass Block,0 Def:f,1 Block,2 Name:a Cond,4,3 Block,5"), laid("Block,0"), laid("Expr,1 Name:a Block,0"), laid("None:x Expr,0 Block,1"), laid("Def:f Block,0"), laid("Param:a Def:f,0 Block,1"),
		make([]api.Node, 1<<20+1),
	} {
		want := ast.Valid(l)
		uses, funcs, err := resolve.Resolve(l)
		isFault(t, l[:min(len(l), 9)], uses, funcs, err, want)
		uses, funcs, err = resolve.Resolve(l, "a", "b", "q")
		isFault(t, l[:min(len(l), 9)], uses, funcs, err, want)
	}
}
