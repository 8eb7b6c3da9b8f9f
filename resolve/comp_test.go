package resolve_test

import (
	"testing"
)

// P8.1: a Comp binds its target's names for its item and its condition; what it goes over stands outside.
func TestComps(t *testing.T) {
	says(t, "[a for a in ()]", "a:l0 a:l0", "0/1")
	says(t, "x = [a for a in b if a]\nb = 1", "x:g0 a:l0 a:l0 b:g1 a:l0 b:g1", "0/1 x b")
	says(t, "a = 1\n[a for a in a if a]\na", "a:g0 a:l0 a:l0 a:g0 a:l0 a:g0", "0/1 a")
	says(t, "[1 for a in ()]", "a:l0", "0/1")
	says(t, "[b for a in b if c]", "b:p0 a:l0 b:p0 c:p1", "0/1", "b", "c")
	faults(t, "[1 for a in ^a]")
	faults(t, "[a for a in (1, ^a)]")
	faults(t, "[^b for a in ()]")
	faults(t, "[a for a in () if ^b]")
	faults(t, "[a for a in ()]\n^a")
	faults(t, "x = [a for a in ()], ^a")
	faults(t, "^a, [a for a in ()]")
	faults(t, "def f(): return [a for a in ()], ^a")
}

// P8.1: a Comp's target is a Name, a Tuple, or an Index, or has such; an Index binds nothing, and stands inside.
func TestCompTargets(t *testing.T) {
	says(t, "[a + b for a, b in ()]", "a:l0 b:l1 a:l0 b:l1", "0/2")
	says(t, "[c for a, (b, (c,)) in () if b]", "c:l2 a:l0 b:l1 c:l2 b:l1", "0/3")
	says(t, "[b for a, b, a, b in ()]", "b:l1 a:l0 b:l1 a:l0 b:l1", "0/2")
	says(t, "[x for x[0] in ()]\nx = 1", "x:g0 x:g0 x:g0", "0/0 x")
	says(t, "[a for a, x[a], b in a]\nx = 1\na = 1", "a:l0 a:l0 x:g0 a:l0 b:l1 a:g1 x:g0 a:g1", "0/2 x a")
	says(t, "[1 for x[a], a, b[x] in ()]\nx = 1", "x:g0 a:l0 a:l0 b:p0 x:g0 x:g0", "0/1 x", "b")
	says(t, "[1 for a, a[b][a], b in ()]", "a:l0 a:l0 b:l1 a:l0 b:l1", "0/2")
	faults(t, "[1 for ^x[0] in ()]")
	faults(t, "[1 for a, ^x[a] in ()]")
	faults(t, "[1 for x[^y] in ()]\nx = 1")
	faults(t, "[^x for x[0] in ()]")
}

// P8.1: a Comp's names have their slots by their nodes' places, not as they stand in its target.
func TestCompsByNodes(t *testing.T) {
	laidSays(t, "Name:b Name:a Tuple,1,0 Int:1 List Comp,3,2,4 Expr,5 Block,6", "b:l0 a:l1", "0/2")
	laidSays(t, "Name:a Name:b Name:a Tuple,2,1 List Comp,0,3,4 Expr,5 Block,6", "a:l1 b:l0 a:l1", "0/2")
	laidSays(t, "List Name:c Name:b Tuple,2 Name:a Tuple,4,3,1 Name:a Comp,6,5,0 Expr,7 Block,8", "c:l0 b:l1 a:l2 a:l2", "0/3")
}

// P8.1: a Comp within another's item, condition, or target has its slots behind it; one that it goes over has not.
func TestCompsWithin(t *testing.T) {
	says(t, "[[a + b for b in a] for a in ()]", "a:l0 b:l1 b:l1 a:l0 a:l0", "0/2")
	says(t, "[1 for a in () if [a + b for b in a]]", "a:l0 a:l0 b:l1 b:l1 a:l0", "0/2")
	says(t, "[a for a in [b for b in ()]]", "a:l0 a:l0 b:l0 b:l0", "0/1")
	says(t, "[a for a in [a for a in [a for a in a]]]", "a:l0 a:l0 a:l0 a:l0 a:l0 a:l0 a:p0", "0/1", "a")
	says(t, "[[a for a in a] for a in a]", "a:l1 a:l1 a:l0 a:l0 a:p0", "0/2", "a")
	says(t, "[1 for a, x[[b + c for b, c in a]], d in ()]", "a:l0 x:p0 b:l2 c:l3 b:l2 c:l3 a:l0 d:l1", "0/4", "x")
	says(t, "[[[a, b, c] for c in b if c] for a, b in () if [c for c, d in a]]", "a:l0 b:l1 c:l2 c:l2 b:l1 c:l2 a:l0 b:l1 c:l2 c:l2 d:l3 a:l0", "0/4")
	says(t, "[[c for c in [d for d in a]] for a, b in ()]", "c:l2 c:l2 d:l2 d:l2 a:l0 a:l0 b:l1", "0/3")
	says(t, "[[[1 for c in (a, b)] for x[0] in a] for a, b in ()]", "c:l2 a:l0 b:l1 x:p0 a:l0 a:l0 b:l1", "0/3", "x")
	says(t, "[[b for a, b in a] + [a] for a, c in ()]", "b:l3 a:l2 b:l3 a:l0 a:l0 a:l0 c:l1", "0/4")
	faults(t, "[[b for b in ()] for a in ^b]")
	faults(t, "[^b for a in [b for b in ()]]")
	faults(t, "[[1 for b in ()] + ^b for a in ()]")
	faults(t, "[a for a in [^a for b in ()]]")
	faults(t, "[[1 for b in a] for a in () if ^b]")
}

// P8.1: Comps side by side have the same slots; there are as many as the Comps have at most.
func TestCompsBeside(t *testing.T) {
	says(t, "[a for a in ()] + [b for b, c in ()]", "a:l0 a:l0 b:l0 b:l0 c:l1", "0/2")
	says(t, "[b for b, c in ()]\n[a for a in ()]", "b:l0 b:l0 c:l1 a:l0 a:l0", "0/2")
	says(t, "x = [a for a in ()]\nif [b for b in x]: [c for c, d, e in x]\nfor y in [f for f in x]: [[g for g in h] for h in x]", "x:g0 a:l0 a:l0 b:l0 b:l0 x:g0 c:l0 c:l0 d:l1 e:l2 x:g0 y:g1 f:l0 f:l0 x:g0 g:l1 g:l1 h:l0 h:l0 x:g0", "0/3 x y")
	says(t, "[[a for a in ()] + [[c for c in b] for b in ()] + [d for d in x] for x in ()]", "a:l1 a:l1 c:l2 c:l2 b:l1 b:l1 d:l1 d:l1 x:l0 x:l0", "0/3")
	says(t, "[1 for a in [b for b, c, d in ()] if [e for e in ()]]", "a:l0 b:l0 b:l0 c:l1 d:l2 e:l1 e:l1", "0/3")
	says(t, "x[[a for a in ()]] = [b for b in ()]", "x:p0 a:l0 a:l0 b:l0 b:l0", "0/1", "x")
	says(t, "for x[[a for a in ()]], y in (): pass", "x:p0 a:l0 a:l0 y:g0", "0/1 y", "x")
}

// P8.1: the Comps of a Def have their slots behind its locals, and are its own; the Names are its locals' alone.
func TestCompsInDefs(t *testing.T) {
	says(t, "def f(a):\n b = [c for c in a if c]\n return [[d + b for d in e] for e, g in b]", "b:l1 c:l2 c:l2 a:l0 c:l2 d:l4 b:l1 d:l4 e:l2 e:l2 g:l3 b:l1", "0/0 f; 1/5 a b")
	says(t, "def f(): return [a for a in ()]\ndef g(a): return [a for a in a]", "a:l0 a:l0 a:l1 a:l1 a:l0", "0/0 f g; 0/1; 1/2 a")
	says(t, "[a for a, b in ()]\ndef f(x): return [y for y in x]\n[c for c in ()]", "a:l0 a:l0 b:l1 y:l1 y:l1 x:l0 c:l0 c:l0", "0/2 f; 1/2 x")
	says(t, "def f():\n x = [x for x in x]\n y = 1", "x:l0 x:l2 x:l2 x:l0 y:l1", "0/0 f; 0/3 x y")
	says(t, "def f():\n return [1 for a, x[[b for b in a]] in x]\nx = 1", "a:l0 x:g1 b:l1 b:l1 a:l0 x:g1 x:g1", "0/0 f x; 0/2")
	says(t, "def f():\n for a in [b for b in ()]:\n  if [c for c in a]: a[[d for d in a]] = 1", "a:l0 b:l1 b:l1 c:l1 c:l1 a:l0 a:l0 d:l1 d:l1 a:l0", "0/0 f; 0/2 a")
}

// P8.1: a Comp in a Param's value stands in the whole.
func TestCompsInParams(t *testing.T) {
	says(t, "def f(a, b = [[a, c] for a, c in d]): return a\nd = 1", "a:l0 c:l1 a:l0 c:l1 d:g1 a:l0 d:g1", "0/2 f d; 2/2 a b")
	says(t, "def f(a = [b for b in ()], c = [[1 for e in d] for d in ()]): return [g for g in a]", "b:l0 b:l0 e:l1 d:l0 d:l0 g:l2 g:l2 a:l0", "0/2 f; 2/3 a c")
	faults(t, "def f(a, b = [1 for c in ^a]): pass")
}

// P8.1: what a Comp binds is no global, no local, and hides what is bound outside, or given, for itself alone.
func TestCompsHide(t *testing.T) {
	says(t, "x = 1\ny = [x for x in x], x\nx", "x:g0 y:g1 x:l0 x:l0 x:g0 x:g0 x:g0", "0/1 x y")
	says(t, "def f(x): return [x for x in x], x", "x:l1 x:l1 x:l0 x:l0", "0/0 f; 1/2 x")
	says(t, "[len for len in len], len", "len:l0 len:l0 len:p0 len:p0", "0/1", "len")
	says(t, "[([x for x in x], x, [x for x in x], x) for x in x]", "x:l1 x:l1 x:l0 x:l0 x:l1 x:l1 x:l0 x:l0 x:l0 x:p0", "0/2", "x")
	says(t, "x = [y for y in ()]\ny = 1", "x:g0 y:l0 y:l0 y:g1", "0/1 x y")
	says(t, "def f(): return [f for f in f]", "f:l0 f:l0 f:g0", "0/0 f; 0/1")
}
