package resolve_test

import (
	"testing"
)

// P8.1: the chapter's example, and the smallest trees.
func TestExamples(t *testing.T) {
	says(t, "x = 1\ndef f(a): return a + x", "x:g0 a:l0 x:g0", "0/0 x f; 1/1 a")
	faults(t, "^y")
	says(t, "", "", "0/0")
	says(t, "pass", "", "0/0")
	says(t, "1 + 2\n'x'", "", "0/0")
	says(t, "x = 1", "x:g0", "0/0 x")
	says(t, "def f(): pass", "", "0/0 f; 0/0")
}

// P8.1: each sort of statement that binds in the whole.
func TestGlobals(t *testing.T) {
	says(t, "x = 1\nx", "x:g0 x:g0", "0/0 x")
	says(t, "x += 1", "x:g0", "0/0 x")
	says(t, "for x in (): pass\nx", "x:g0 x:g0", "0/0 x")
	says(t, "for x in (): y = 1\ny", "x:g0 y:g1 y:g1", "0/0 x y")
	says(t, "def f(): pass\nf", "f:g0", "0/0 f; 0/0")
	says(t, "load('m', 'a', b = 'c')\nb(a)", "b:g1 a:g0", "0/0 a b")
	says(t, "a, (b, c), d[0] = 1\nd = 2", "a:g0 b:g1 c:g2 d:g3 d:g3", "0/0 a b c d")
	says(t, "for a, (b,), in (): pass", "a:g0 b:g1", "0/0 a b")
	says(t, "(a,) = 1,", "a:g0", "0/0 a")
}

// P8.1: what stands within a Cond, a For or both of the whole binds there as well.
func TestGlobalsWithin(t *testing.T) {
	says(t, "if 1: a = 1\nelif 2: b += 1\nelse:\n for c in (): pass\n", "a:g0 b:g1 c:g2", "0/0 a b c")
	says(t, "if 1:\n if 2:\n  a = 1\n else:\n  b = 2\na + b", "a:g0 b:g1 a:g0 b:g1", "0/0 a b")
	says(t, "for a in ():\n b = 1\n c += 1\n for d in ():\n  e = 1\n  if 1: f = 1\n", "a:g0 b:g1 c:g2 d:g3 e:g4 f:g5", "0/0 a b c d e f")
	says(t, "if 1:\n for a in b: c = 1\nb = a", "a:g0 b:g2 c:g1 b:g2 a:g0", "0/0 a c b")
}

// P8.1: globals are numbered by their nodes' places, each once.
func TestGlobalsInOrder(t *testing.T) {
	says(t, "b = 1\na = 2\nb = 3\nc = a\na += 1", "b:g0 a:g1 b:g0 c:g2 a:g1 a:g1", "0/0 b a c")
	says(t, "load('m', 'z', y = 'z')\nfor x in (): w = 1\ndef v(): pass\nu += 1", "x:g2 w:g3 u:g5", "0/0 z y x w v u; 0/0")
	says(t, "u += 1\ndef v(): pass\nfor x in (): w = 1\nload('m', 'z', y = 'z')", "u:g0 x:g2 w:g3", "0/0 u v x w z y; 0/0")
	says(t, "load('m', 'a')\na = 1\ndef a(): pass\nfor a in a: a += a", "a:g0 a:g0 a:g0 a:g0 a:g0", "0/0 a; 0/0")
	says(t, "x, x, y, x = y", "x:g0 x:g0 y:g1 x:g0 y:g1", "0/0 x y")
	says(t, "def f(a = [y for y in ()]): z = 1\ny = 1\nz = 2", "y:l0 y:l0 z:l1 y:g1 z:g2", "0/1 f y z; 1/2 a z")
	says(t, "load('m', 'a')\nload('n', 'b', a = 'c')\nload('m', 'c')", "", "0/0 a b c")
}

// P8.1: a Def's node lies behind all beneath it, a Load's Param ahead of the Load; the nodes may lie otherwise than they stand.
func TestGlobalsByNodes(t *testing.T) {
	laidSays(t, "Name:b Int:1 Assign,0,1 Name:a Int:2 Assign,3,4 Block,5,2", "b:g0 a:g1", "0/0 b a")
	laidSays(t, "Name:b Name:a Int:1 Assign,1,2 Int:2 Assign,0,4 Block,3,5", "b:g0 a:g1", "0/0 b a")
	laidSays(t, "Pass Block,0 Name:x Int:1 Assign,2,3 Def:f,1 Block,5,4", "x:g0", "0/0 x f; 0/0")
	laidSays(t, "Name:x Int:1 Pass Block,2 Def:f,3 Assign,0,1 Block,4,5", "x:g0", "0/0 x f; 0/0")
	laidSays(t, "Str:s Param:a,0 Name:x Int:1 Assign,2,3 Str:s Param:b,5 Load:m,6,1 Block,4,7", "x:g1", "0/0 a x b")
	laidSays(t, "Name:y Int:1 Assign,0,1 Block,2 Name:x List For,4,5,3 Block,6", "y:g0 x:g1", "0/0 y x")
	laidSays(t, "Name:c Name:b Name:a Tuple,2,1,0 Int:1 Assign,3,4 Block,5", "c:g0 b:g1 a:g2", "0/0 c b a")
	laidSays(t, "Name:v Name:x Assign,1,0 Name:v Int:2 Assign,3,4 Block,2,5", "v:g1 x:g0 v:g1", "0/0 x v")
}

// P8.1: of a target that is indexed only what is in no Index is bound.
func TestIndexedTargets(t *testing.T) {
	says(t, "x[y] = 1\ny = 1\nx = 2", "x:g1 y:g0 y:g0 x:g1", "0/0 y x")
	says(t, "x[y] += 1\ny = 1\nx = 2", "x:g1 y:g0 y:g0 x:g1", "0/0 y x")
	says(t, "for x[y] in (): pass\ny = 1\nx = 2", "x:g1 y:g0 y:g0 x:g1", "0/0 y x")
	says(t, "a, x[(b, c)[0]][0], d = 1\nc = 1\nb = 1\nx = 1", "a:g0 x:g4 b:g3 c:g2 d:g1 c:g2 b:g3 x:g4", "0/0 a d c b x")
	faults(t, "^x[0] = 1")
	faults(t, "^x[0] += 1")
	faults(t, "for ^x[0] in (): pass")
	faults(t, "x = 1\nx[^y] = 1")
	faults(t, "a, ^x[a] = 1")
	faults(t, "a, (b, ^x[(a, b)]) = 1")
	faults(t, "x = 1\nx[0], x[(^y, x)] = 1")
	faults(t, "def f():\n for ^x[0] in (): pass")
	faults(t, "def f():\n ^x[0] = 1")
	faults(t, "def f():\n ^x[0] += 1")
	faults(t, "def f(x):\n x[^y] = 1\n return y")
}

// P8.1: a global is one ahead of where it is bound, too, and within a Def.
func TestGlobalsAhead(t *testing.T) {
	says(t, "y = x\nx = 1", "y:g0 x:g1 x:g1", "0/0 y x")
	says(t, "x\nx = 1", "x:g0 x:g0", "0/0 x")
	says(t, "for x in x: pass", "x:g0 x:g0", "0/0 x")
	says(t, "for x in y: y = x", "x:g0 y:g1 y:g1 x:g0", "0/0 x y")
	says(t, "f()\ndef f(): pass", "f:g0", "0/0 f; 0/0")
	says(t, "a\nload('m', 'a')", "a:g0", "0/0 a")
	says(t, "def f(): return x, f, g\nx = 1\ndef g(): return g, f, x", "x:g1 f:g0 g:g2 x:g1 g:g2 f:g0 x:g1", "0/0 f x g; 0/0; 0/0")
	says(t, "def f():\n x[y] = z\n for x[0] in y: z.y\nx = 1\ny = 1\nz = 1", "x:g1 y:g2 z:g3 x:g1 y:g2 z:g3 x:g1 y:g2 z:g3", "0/0 f x y z; 0/0")
	says(t, "if y: pass\nelse: y = 1", "y:g0 y:g0", "0/0 y")
}

// P8.1: what a Dot, an Arg, a Str says is no Name; nor are a Def's, a Param's, a Load's texts.
func TestNoNames(t *testing.T) {
	says(t, "f = 1\nf.a.b(c = f, d = 1)['e']", "f:g0 f:g0 f:g0", "0/0 f")
	says(t, "load('q', a = 'r')\na.x", "a:g0", "0/0 a")
	faults(t, "f = 1\nf(a = 1)\n^a")
	faults(t, "f = 1\nf.a\n^a")
	faults(t, "load('q', a = 'r')\n^r")
	faults(t, "load('q', a = 'r')\n^q")
	faults(t, "'x'\n^x")
}
