package resolve_test

import (
	"testing"
)

// P8.1: a Def's Params come first, in order, then what its Block binds, by the nodes' places, each once.
func TestLocals(t *testing.T) {
	says(t, "def f(a, b, c): return c, b, a", "c:l2 b:l1 a:l0", "0/0 f; 3/3 a b c")
	says(t, "def f(b, a = 1):\n d = 2\n c += d\n for e in (): g = 1\n return a, b, c, d, e, g", "d:l2 c:l3 d:l2 e:l4 g:l5 a:l1 b:l0 c:l3 d:l2 e:l4 g:l5", "0/0 f; 2/6 b a d c e g")
	says(t, "def f(a):\n b = 1\n a = b\n b += a\n for a, b, c in (): pass", "b:l1 a:l0 b:l1 b:l1 a:l0 a:l0 b:l1 c:l2", "0/0 f; 1/3 a b c")
	says(t, "def f():\n a, (b[a], c) = 1\n b = 2", "a:l0 b:l2 a:l0 c:l1 b:l2", "0/0 f; 0/3 a c b")
	says(t, "def f():\n if a: b = 1\n elif 2:\n  for c in b:\n   if c: a = 1\n", "a:l2 b:l0 c:l1 b:l0 c:l1 a:l2", "0/0 f; 0/3 b c a")
	says(t, "def f(a): pass", "", "0/0 f; 1/1 a")
	says(t, "def f(): a[0] = 1\na = 1", "a:g1 a:g1", "0/0 f a; 0/0")
	says(t, "def f(f): f = f", "f:l0 f:l0", "0/0 f; 1/1 f")
	says(t, "def f():\n return x\n x = 1", "x:l0 x:l0", "0/0 f; 0/1 x")
	says(t, "def f(): f += 1\nf", "f:l0 f:g0", "0/0 f; 0/1 f")
}

// P8.1: Params are in the order of their Def's kids, whatever their nodes' places; all else by these.
func TestLocalsByNodes(t *testing.T) {
	laidSays(t, "Param:b Param:a Name:a Name:b Tuple,2,3 Return,4 Block,5 Def:f,1,0,6 Block,7", "a:l0 b:l1", "0/0 f; 2/2 a b")
	laidSays(t, "Name:c Int:1 Assign,0,1 Param:b Param:a Block,2 Def:f,4,3,5 Block,6", "c:l2", "0/0 f; 2/3 a b c")
	laidSays(t, "Name:c Int:1 Assign,0,1 Name:b Int:1 Assign,3,4 Name:b Int:1 Assign,6,7 Block,5,8,2 Param:a Def:f,10,9 Block,11", "c:l1 b:l2 b:l2", "0/0 f; 1/3 a c b")
	laidSays(t, "Name:d Name:c Tuple,1,0 List Pass Block,4 For,2,3,5 Block,6 Def:f,7 Block,8", "d:l0 c:l1", "0/0 f; 0/2 d c")
}

// P8.1: a name that both a Def and the whole bind is each one's own; what one Def binds means nothing to another.
func TestOfTwo(t *testing.T) {
	says(t, "x = 1\ndef f():\n x = x\ndef g(): return x\nx", "x:g0 x:l0 x:l0 x:g0 x:g0", "0/0 x f g; 0/1 x; 0/0")
	says(t, "def f(a, b): return a, b\ndef g(b, c): return b, c\nb = 1\ndef h(c): return b, c", "a:l0 b:l1 b:l0 c:l1 b:g2 b:g2 c:l0", "0/0 f g b h; 2/2 a b; 2/2 b c; 1/1 c")
	says(t, "load('m', 'a')\ndef f():\n a += 1\n return a\na", "a:l0 a:l0 a:g0", "0/0 a f; 0/1 a")
	faults(t, "def f():\n a = 1\ndef g(): return ^a")
	faults(t, "def g(): return ^a\ndef f(a): pass")
	faults(t, "def f(a): pass\n^a")
	faults(t, "def f():\n for a in (): pass\n^a")
	faults(t, "def f():\n a += 1\nx = ^a")
	faults(t, "def f(a): return a\nf(a = ^a)")
}

// P8.1: a Param's value stands outside its Def.
func TestParamValues(t *testing.T) {
	says(t, "a = 1\ndef f(a = a, b = a):\n return a, b", "a:g0 a:g0 a:g0 a:l0 b:l1", "0/0 a f; 2/2 a b")
	says(t, "def f(a, b = c):\n c = b\nc = 1", "c:g1 c:l2 b:l1 c:g1", "0/0 f c; 2/3 a b c")
	says(t, "def f(b = f, c = g): pass\ndef g(): pass", "f:g0 g:g1", "0/0 f g; 2/2 b c; 0/0")
	says(t, "def f(a = a): return a", "a:p0 a:l0", "0/0 f; 1/1 a", "a")
	faults(t, "def f(a = ^a): pass")
	faults(t, "def f(a, b = (1, [^a])): pass")
	faults(t, "def f(a = ^b, b = 1): pass")
	faults(t, "def f(a = ^b):\n b = a")
}

// P8.1: the Funcs are the whole, then each Def, by its node, wherever it stands in the whole.
func TestFuncs(t *testing.T) {
	says(t, "def f(): pass\ndef f(a): pass\ndef e(a, b):\n c = 1", "c:l2", "0/0 f e; 0/0; 1/1 a; 2/3 a b c")
	laidSays(t, "Pass Block,0 Def:f,1 Param:a Pass Block,4 Def:g,3,5 Block,6,2", "", "0/0 f g; 0/0; 1/1 a")
	laidSays(t, "Param:a Pass Block,1 Pass Block,3 Def:f,4 Def:g,0,2 Pass Block,7,6,5", "", "0/0 f g; 0/0; 1/1 a")
	laidSays(t, "Pass Block,0 Param:z Pass Block,3 Param:x Param:y Pass Block,7 Def:c,5,6,8 Def:a,1 Def:b,2,4 Block,10,11,9", "", "0/0 c a b; 2/2 x y; 0/0; 1/1 z")
}
