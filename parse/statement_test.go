package parse_test

import (
	"testing"
)

// P6.1: a text of no statement is a Block of one Pass, at 0.
func TestNoStatement(t *testing.T) {
	for _, text := range []string{"", "\n", "\n\n  \n", "# c", "   # c\n\n", " "} {
		isFile(t, text, "Block@0(Pass@0)")
	}
	isFile(t, "\n\npass", "Block@2(Pass@2)")
}

// P6.1: a Block is where its first statement is; a statement needs its newline.
func TestLines(t *testing.T) {
	isFile(t, "a", "Block@0(Expr@0(Name:a@0))")
	isFile(t, "a\n", "Block@0(Expr@0(Name:a@0))")
	isFile(t, "# c\na # d\n\nb", "Block@4(Expr@4(Name:a@4) Expr@11(Name:b@11))")
	isFile(t, "a + b\nc", "Block@2(Expr@2(Add@2(Name:a@0 Name:b@4)) Expr@6(Name:c@6))")
	isFile(t, "(a)", "Block@1(Expr@1(Name:a@1))")
	isFile(t, "a.b(c)", "Block@3(Expr@3(Call@3(Dot:b@1(Name:a@0) Name:c@4)))")
	isFile(t, "pass\npass", "Block@0(Pass@0 Pass@5)")
	faults(t, "a b", 2)
	faults(t, "a pass", 2)
	faults(t, "pass pass", 5)
	faults(t, "pass a", 5)
	faults(t, "pass = a", 5)
	faults(t, "pass()", 4)
	faults(t, "pass,", 4)
	faults(t, "a\n*\nb", 2)
	faults(t, "a :", 2)
	faults(t, "a, b:", 4)
	faults(t, "a.", 2)
	faults(t, "a +\nb", 3)
	faults(t, "a = (b\n) c", 9)
	faults(t, "if", 2)
	faults(t, "a if b else\n", 11)
	faults(t, "True False", 5)
}

// P6.1: lines that begin further in stand in blocks alone.
func TestIndents(t *testing.T) {
	faults(t, "  a", 2)
	faults(t, "\n a\nb", 2)
	faults(t, "a\n  b", 4)
	faults(t, "a\n  b\nc", 4)
	faults(t, "if a:\n  b\n    c", 14)
	faults(t, "if a: b\n  c", 10)
	faults(t, "if a:\n  b\nelse: c\n  d", 20)
	faults(t, "def f(): pass\n pass", 15)
	isFile(t, "(\n    a\n  )\nb", "Block@6(Expr@6(Name:a@6) Expr@12(Name:b@12))")
}

// P6.1: = and what stands on its left.
func TestAssign(t *testing.T) {
	isFile(t, "a = b", "Block@2(Assign@2(Name:a@0 Name:b@4))")
	isFile(t, "a, b = c,", "Block@5(Assign@5(Tuple@0(Name:a@0 Name:b@3) Tuple@7(Name:c@7)))")
	isFile(t, "a, = b, c", "Block@3(Assign@3(Tuple@0(Name:a@0) Tuple@5(Name:b@5 Name:c@8)))")
	isFile(t, "(a) = b", "Block@4(Assign@4(Name:a@1 Name:b@6))")
	isFile(t, "((a, b)) = c", "Block@9(Assign@9(Tuple@1(Name:a@2 Name:b@5) Name:c@11))")
	isFile(t, "(a, (b, c),) = ()", "Block@13(Assign@13(Tuple@0(Name:a@1 Tuple@4(Name:b@5 Name:c@8)) Tuple@15))")
	isFile(t, "a[0] = b", "Block@5(Assign@5(Index@1(Name:a@0 Int:0@2) Name:b@7))")
	isFile(t, "f(a).b[c], d = e", "Block@13(Assign@13(Tuple@0(Index@6(Dot:b@4(Call@1(Name:f@0 Name:a@2)) Name:c@7) Name:d@11) Name:e@15))")
	isFile(t, "(a)[0] = b", "Block@7(Assign@7(Index@3(Name:a@1 Int:0@4) Name:b@9))")
	isFile(t, "'a'[0] = b", "Block@7(Assign@7(Index@3(Str:a@0 Int:0@4) Name:b@9))")
	isFile(t, "[a][0] = b", "Block@7(Assign@7(Index@3(List@0(Name:a@1) Int:0@4) Name:b@9))")
	isFile(t, "a = b if c else d", "Block@2(Assign@2(Name:a@0 If@6(Name:c@9 Name:b@4 Name:d@16)))")
	isFile(t, "a, a = a", "Block@5(Assign@5(Tuple@0(Name:a@0 Name:a@3) Name:a@7))")
	for _, left := range []string{
		"1", "'a'", "None", "True", "()", "[]", "[a]", "[a, b]", "{}", "{a: b}", "f()", "a.b", "a[0].b", "a[:]", "a[b:c]", "-a", "not a",
		"a + b", "a or b", "a == b", "a not in b", "a if b else c", "[a for a in b]", "(f())", "(a.b)", "a, 1", "1, a", "a, ()", "a, (b, c.d)",
		"((), )", "(a, [b])", "a, b.c,", "(-a)", "a[0]()", "a, (b, (c, 1))",
	} {
		faults(t, left+" = x", len(left)+1)
		faults(t, left+" =", len(left)+1)
		faults(t, left+" = *", len(left)+1)
		passes(t, left)
	}
	faults(t, "a =", 3)
	faults(t, "a = = b", 4)
	faults(t, "a = b = c", 6)
	faults(t, "a = 1 = c", 6)
	faults(t, "a = b += c", 6)
	faults(t, "a = pass", 4)
	faults(t, "a = load", 4)
	faults(t, "a = b, = c", 7)
	faults(t, "= a", 0)
	faults(t, "if = a", 3)
	faults(t, "True = a", 5)
}

// P6.1: += and what stands on its left: a Name or an Index.
func TestAddTo(t *testing.T) {
	isFile(t, "a += b", "Block@2(AddTo@2(Name:a@0 Name:b@5))")
	isFile(t, "(a) += b, c", "Block@4(AddTo@4(Name:a@1 Tuple@7(Name:b@7 Name:c@10)))")
	isFile(t, "((a[0])) += b", "Block@9(AddTo@9(Index@3(Name:a@2 Int:0@4) Name:b@12))")
	isFile(t, "f()[0] += -1", "Block@7(AddTo@7(Index@3(Call@1(Name:f@0) Int:0@4) Neg@10(Int:1@11)))")
	for _, left := range []string{
		"1", "'a'", "()", "[a]", "f()", "a.b", "a[:]", "-a", "a + b", "a if b else c", "a,", "a, b", "(a,)", "(a, b)", "((a, b))", "a[0], b", "not a",
	} {
		faults(t, left+" += x", len(left)+1)
		faults(t, left+" += *", len(left)+1)
	}
	faults(t, "a +=", 4)
	faults(t, "a += b += c", 7)
	faults(t, "a += b = c", 7)
	faults(t, "a + = b", 4)
	faults(t, "+= a", 0)
}

// P6.1: if, elif and else, on the line and on lines of their own.
func TestConds(t *testing.T) {
	isFile(t, "if a: b", "Block@0(Cond@0(Name:a@3 Block@6(Expr@6(Name:b@6))))")
	isFile(t, "if a:\n  b\n  c\nd", "Block@0(Cond@0(Name:a@3 Block@8(Expr@8(Name:b@8) Expr@12(Name:c@12))) Expr@14(Name:d@14))")
	isFile(t, "if a: b = c\nelse: d += e", "Block@0(Cond@0(Name:a@3 Block@8(Assign@8(Name:b@6 Name:c@10)) Block@20(AddTo@20(Name:d@18 Name:e@23))))")
	isFile(t, "if a:\n b\nelse:\n c", "Block@0(Cond@0(Name:a@3 Block@7(Expr@7(Name:b@7)) Block@16(Expr@16(Name:c@16))))")
	isFile(t, "if a: b\nelif c: d", "Block@0(Cond@0(Name:a@3 Block@6(Expr@6(Name:b@6)) Block@8(Cond@8(Name:c@13 Block@16(Expr@16(Name:d@16))))))")
	isFile(t, "if a: b\nelif c:\n d\nelif e: f\nelse: g\nh",
		"Block@0(Cond@0(Name:a@3 Block@6(Expr@6(Name:b@6)) Block@8(Cond@8(Name:c@13 Block@17(Expr@17(Name:d@17)) "+
			"Block@19(Cond@19(Name:e@24 Block@27(Expr@27(Name:f@27)) Block@35(Expr@35(Name:g@35))))))) Expr@37(Name:h@37))")
	isFile(t, "if a:\n if b: c\n else: d\nelse: e",
		"Block@0(Cond@0(Name:a@3 Block@7(Cond@7(Name:b@10 Block@13(Expr@13(Name:c@13)) Block@22(Expr@22(Name:d@22)))) Block@30(Expr@30(Name:e@30))))")
	isFile(t, "if a: pass\nif b: pass\nelse: pass",
		"Block@0(Cond@0(Name:a@3 Block@6(Pass@6)) Cond@11(Name:b@14 Block@17(Pass@17) Block@28(Pass@28)))")
	isFile(t, "if a if b else c: pass", "Block@0(Cond@0(If@5(Name:b@8 Name:a@3 Name:c@15) Block@18(Pass@18)))")
	isFile(t, "if a:\n\n  # c\n    # d\n  b", "Block@0(Cond@0(Name:a@3 Block@23(Expr@23(Name:b@23))))")
	isFile(t, "if (a, b): pass", "Block@0(Cond@0(Tuple@3(Name:a@4 Name:b@7) Block@11(Pass@11)))")
	for _, x := range []struct {
		text string
		pos  int
	}{
		{"if: a", 2}, {"if a", 4}, {"if a b", 5}, {"if a, b: c", 4}, {"if a = b: c", 5}, {"if a:", 5}, {"if a:\n", 6}, {"if a:\nb", 6}, {"if a: # c\n\nb", 11},
		{"if a: if b: c", 6}, {"if a: for b in c: d", 6}, {"if a: b: c", 7}, {"if a: b c", 8}, {"if a:: b", 5}, {"if a: else: b", 6},
		{"else: a", 0}, {"elif a: b", 0}, {"a\nelse: b", 2}, {"if a: b\nc\nelse: d", 10}, {"if a: b\nelse: c\nelse: d", 16}, {"if a: b\nelse: c\nelif d: e", 16},
		{"if a: b\nelse c: d", 13}, {"if a: b\nelse\n", 12}, {"if a: b\nelif: c", 12}, {"if a: b\nelif c", 14}, {"if a: b\nelse:", 13}, {"if a: b\nelif c:\nd", 16},
		{"if a:\n  b\n  else: c", 12}, {"if a:\n  if b: c\nelif", 20}, {"for a in b: c\nelse: d", 14}, {"def f(): pass\nelse: d", 14}, {"if a:\n else: b", 7},
		{"if a: pass else: pass", 11}, {"if not: a", 6}, {"if a:\n  b\nelse: if c: d", 16}, {"if a: b\nelse if c: d", 13},
	} {
		faults(t, x.text, x.pos)
	}
}

// P6.1: for, its targets, and what it goes over.
func TestFors(t *testing.T) {
	isFile(t, "for a in b: c", "Block@0(For@0(Name:a@4 Name:b@9 Block@12(Expr@12(Name:c@12))))")
	isFile(t, "for a, in b,: c", "Block@0(For@0(Tuple@4(Name:a@4) Tuple@10(Name:b@10) Block@14(Expr@14(Name:c@14))))")
	isFile(t, "for a, b in c, d:\n e", "Block@0(For@0(Tuple@4(Name:a@4 Name:b@7) Tuple@12(Name:c@12 Name:d@15) Block@19(Expr@19(Name:e@19))))")
	isFile(t, "for a, b, in c if d else e: f", "Block@0(For@0(Tuple@4(Name:a@4 Name:b@7) If@15(Name:d@18 Name:c@13 Name:e@25) Block@28(Expr@28(Name:f@28))))")
	isFile(t, "for a in b in c: d", "Block@0(For@0(Name:a@4 In@11(Name:b@9 Name:c@14) Block@17(Expr@17(Name:d@17))))")
	isFile(t, "for a in ():\n for b in []: c", "Block@0(For@0(Name:a@4 Tuple@9 Block@14(For@14(Name:b@18 List@23 Block@27(Expr@27(Name:c@27))))))")
	for _, x := range []struct {
		text string
		pos  int
	}{
		{"for", 3}, {"for a", 5}, {"for a in", 8}, {"for a in b", 10}, {"for a in b c: d", 11}, {"for in b: c", 4}, {"for a b: c", 6}, {"for a = b: c", 6},
		{"for a not in b: c", 6}, {"for a in: c", 8}, {"for a: b", 5}, {"for a in b:", 11}, {"for a in b: for c in d: e", 12}, {"for a in b = c: d", 11},
		{"for , in b: c", 4}, {"for a,, in b: c", 6}, {"for a, b c in d: e", 9}, {"for a + b in c: d", 6}, {"for a, in: b", 9}, {"for a if b in c: d", 6},
	} {
		faults(t, x.text, x.pos)
	}
}

// P6.1: what is a target of a For and of a Comp, in brackets and not.
func TestTargets(t *testing.T) {
	for _, x := range []struct{ text, want string }{
		{"a", "Name:a@7"},
		{"a,", "Tuple@7(Name:a@7)"},
		{"a, b, c", "Tuple@7(Name:a@7 Name:b@10 Name:c@13)"},
		{"(a)", "Name:a@8"},
		{"((a))", "Name:a@9"},
		{"(a),", "Tuple@7(Name:a@8)"},
		{"(a), b", "Tuple@7(Name:a@8 Name:b@12)"},
		{"(a,)", "Tuple@7(Name:a@8)"},
		{"((a,))", "Tuple@8(Name:a@9)"},
		{"(a, b)", "Tuple@7(Name:a@8 Name:b@11)"},
		{"((a, b))", "Tuple@8(Name:a@9 Name:b@12)"},
		{"((a), b)", "Tuple@7(Name:a@9 Name:b@13)"},
		{"(a, b), c", "Tuple@7(Tuple@7(Name:a@8 Name:b@11) Name:c@15)"},
		{"(a, (b, c,),)", "Tuple@7(Name:a@8 Tuple@11(Name:b@12 Name:c@15))"},
		{"a[0]", "Index@8(Name:a@7 Int:0@9)"},
		{"a[0],", "Tuple@7(Index@8(Name:a@7 Int:0@9))"},
		{"a[b in c]", "Index@8(Name:a@7 In@11(Name:b@9 Name:c@14))"},
		{"a.b[0]", "Index@10(Dot:b@8(Name:a@7) Int:0@11)"},
		{"a(b)[0]", "Index@11(Call@8(Name:a@7 Name:b@9) Int:0@12)"},
		{"a[:][0][1]", "Index@14(Index@11(Slice@8(Name:a@7 Nothing@9 Nothing@10) Int:0@12) Int:1@15)"},
		{"(a.b[0], c)", "Tuple@7(Index@11(Dot:b@9(Name:a@8) Int:0@12) Name:c@16)"},
		{"a, a", "Tuple@7(Name:a@7 Name:a@10)"},
	} {
		isExpr(t, "[x for "+x.text+" in y]", "Comp@0(Name:x@1 "+x.want+" Name:y@"+itoa(11+len(x.text))+")")
		isFile(t, "\n\n\nfor "+x.text+" in y: x", "Block@3(For@3("+x.want+" Name:y@"+itoa(11+len(x.text))+
			" Block@"+itoa(14+len(x.text))+"(Expr@"+itoa(14+len(x.text))+"(Name:x@"+itoa(14+len(x.text))+"))))")
	}
}

// P6.1: what is no target of a For or a Comp is told at the token it begins with, when it is read; a token with which
// none goes on, at it.
func TestNoTargets(t *testing.T) {
	for _, x := range []struct {
		text string
		pos  int
	}{
		{"1", 0}, {"'a'", 0}, {"None", 0}, {"-a", 0}, {"not a", 0}, {"[a]", 0}, {"[a, b]", 0}, {"{}", 0}, {"'a'[0]", 0}, {"[a][0]", 0}, {"1, a", 0}, {"*", 0},
		{"a()", 0}, {"a.b", 0}, {"a[:]", 0}, {"a[0]()", 0}, {"a[0].b", 0}, {"a[0][1:]", 0}, {"a(b)(c)", 0}, {"a.b, c", 0}, {"a.b,", 0},
		{"a, b.c", 3}, {"a, b.c, d", 3}, {"a, b()", 3}, {"a, 1", 3}, {"a, ()", 4}, {"a, -b", 3}, {"a, (b, c.d)", 7}, {"a, (b.c, d)", 4}, {"a, (1)", 4},
		{"()", 1}, {"(())", 2}, {"(a.b)", 1}, {"(a())", 1}, {"(1)", 1}, {"((a), 1)", 6}, {"(a)[0]", 3}, {"(a).b", 3}, {"(a)(b)", 3}, {"(a, b)[0]", 6}, {"(,)", 1}, {"(a,,)", 3},
		{"(a in b)", 3}, {"(a b)", 3}, {"(a = b)", 3}, {"(a for b)", 3}, {"(a[0] b)", 6}, {"a,,", 2}, {"a b", 2}, {"a[0] b", 5}, {"a + b", 2}, {"a == b", 2}, {"a.b c", 0}, {"a() + b", 0},
		{"a.b = c", 0}, {"a if b", 2}, {"a.b if c", 0}, {"(a + b)", 3}, {"a[]", 2}, {"a(b +)", 5}, {"a(b + ), c.d", 6}, {"a(b = 1, c)", 9}, {"a.1", 2}, {"a.b.1", 4},
		{"a(b = 1, b = 2)", 9}, {"a[[c for d.e in f]]", 9}, {"a[c for d in e]", 4}, {"(a(), b c)", 1}, {"a(), b c", 0},
	} {
		faults(t, "for "+x.text+" in y: x", 4+x.pos)
		exprFaults(t, "[x for "+x.text+" in y]", 7+x.pos)
		exprFaults(t, "f([x, [x for "+x.text+" in y]])", 13+x.pos)
	}
	faults(t, "for a.b\n", 4)
	faults(t, "for a.b: c", 4)
	faults(t, "for a\n", 5)
	faults(t, "for a, b.c", 7)
}

// P6.1: def and its params.
func TestDefs(t *testing.T) {
	isFile(t, "def f(): pass", "Block@0(Def:f@0(Block@9(Pass@9)))")
	isFile(t, "def f(a): return a", "Block@0(Def:f@0(Param:a@6 Block@10(Return@10(Name:a@17))))")
	isFile(t, "def f(a,): return", "Block@0(Def:f@0(Param:a@6 Block@11(Return@11)))")
	isFile(t, "def f(a, b, c = 1, d = e if f else g,):\n return a, b\n",
		"Block@0(Def:f@0(Param:a@6 Param:b@9 Param:c@12(Int:1@16) Param:d@19(If@25(Name:f@28 Name:e@23 Name:g@35)) Block@41(Return@41(Tuple@48(Name:a@48 Name:b@51)))))")
	isFile(t, "def f(\n a=(1, 2)\n): pass", "Block@0(Def:f@0(Param:a@8(Tuple@10(Int:1@11 Int:2@14)) Block@20(Pass@20)))")
	isFile(t, "def f(): pass\ndef f(f): f", "Block@0(Def:f@0(Block@9(Pass@9)) Def:f@14(Param:f@20 Block@24(Expr@24(Name:f@24))))")
	isFile(t, "def f(a): return (a),", "Block@0(Def:f@0(Param:a@6 Block@10(Return@10(Tuple@17(Name:a@18)))))")
	for _, x := range []struct {
		text string
		pos  int
	}{
		{"def", 3}, {"def f", 5}, {"def f:", 5}, {"def f: pass", 5}, {"def f()", 7}, {"def f() pass", 8}, {"def (): pass", 4}, {"def 1(): pass", 4}, {"def if(): pass", 4},
		{"def f.g(): pass", 5}, {"def f(,): pass", 6}, {"def f(a,,): pass", 8}, {"def f(a b): pass", 8}, {"def f(1): pass", 6}, {"def f('a'): pass", 6}, {"def f(if): pass", 6},
		{"def f((a)): pass", 6}, {"def f(a.b): pass", 7}, {"def f(a =): pass", 9}, {"def f(a = b c): pass", 12}, {"def f(a = 1, = 2): pass", 13}, {"def f(a += 1): pass", 8},
		{"def f(a: b): pass", 7}, {"def f(*a): pass", 6}, {"def f():", 8}, {"def f():\npass", 9}, {"def f(): if a: b", 9}, {"def f(): def g(): pass", 9}, {"def f(): pass pass", 14},
		{"def f() = a", 8}, {"def f[a]: pass", 5}, {"def f(a = 1 = 2): pass", 12}, {"f = def", 4},
	} {
		faults(t, x.text, x.pos)
	}
}

// P6.1: params have unlike names, and behind one with a value only such stand: the fault is at the param.
func TestParamsOutOfTurn(t *testing.T) {
	for _, x := range []struct {
		text string
		pos  int
	}{
		{"def f(a, a): pass", 9}, {"def f(a, b, a): pass", 12}, {"def f(a, b, b = 1): pass", 12}, {"def f(a = 1, a = 2): pass", 13}, {"def f(a, a = ): pass", 9}, {"def f(a, a b): pass", 9},
		{"def f(a = 1, b): pass", 13}, {"def f(a = 1, a): pass", 13}, {"def f(a = 1, b = 2, c): pass", 20}, {"def f(a = 1, b c): pass", 13}, {"def f(a = 1, b.c): pass", 13},
		{"def f(a = 1, b, c = 2): pass", 13}, {"def f(a = 1, b,): pass", 13}, {"def f(a = 1, b, b): pass", 13}, {"def f(a = 1, 2): pass", 13}, {"def f(a = g(b = 1, b = 2), a): pass", 19},
	} {
		faults(t, x.text, x.pos)
	}
	passes(t, "def f(a = g(a = 1), b = g(a = 2)): pass")
	passes(t, "def f(a): pass\ndef g(a): pass")
}

// P6.1: load, its names, and what is none.
func TestLoads(t *testing.T) {
	isFile(t, "load('m', 'a')", "Block@0(Load:m@0(Param:a@10(Str:a@10)))")
	isFile(t, `load ( "m:n.x" , 'a' , ) `, "Block@0(Load:m:n.x@0(Param:a@17(Str:a@17)))")
	isFile(t, "load('', a = '')", "Block@0(Load@0(Param:a@9(Str@13)))")
	isFile(t, "load('m', 'a', b = 'c', 'd', e='1 2',)",
		"Block@0(Load:m@0(Param:a@10(Str:a@10) Param:b@15(Str:c@19) Param:d@24(Str:d@24) Param:e@29(Str:1 2@31)))")
	isFile(t, "load('m', 'a', 'a', a = 'a')", "Block@0(Load:m@0(Param:a@10(Str:a@10) Param:a@15(Str:a@15) Param:a@20(Str:a@24)))")
	isFile(t, "load('m',\n 'a')\nload('m', 'a')", "Block@0(Load:m@0(Param:a@11(Str:a@11)) Load:m@16(Param:a@26(Str:a@26)))")
	isFile(t, `load('m', '\x61b')`, "Block@0(Load:m@0(Param:ab@10(Str:ab@10)))")
	isFile(t, "a\nload('m', 'a')", "Block@0(Expr@0(Name:a@0) Load:m@2(Param:a@12(Str:a@12)))")
	for _, x := range []struct {
		text string
		pos  int
	}{
		{"load", 4}, {"load 'm', 'a'", 5}, {"load()", 5}, {"load('m')", 8}, {"load('m',)", 9}, {"load('m',,'a')", 9}, {"load(,'a')", 5}, {"load(m, 'a')", 5}, {"load(m = 'a')", 5},
		{"load('m' 'n', 'a')", 9}, {"load('m' + 'n', 'a')", 9}, {"load(('m'), 'a')", 5}, {"load('m', a)", 11}, {"load('m', a,)", 11}, {"load('m', a = b)", 14}, {"load('m', a =)", 13},
		{"load('m', a = 1)", 14}, {"load('m', 'a' = 'b')", 14}, {"load('m', 'a' 'b')", 14}, {"load('m', a = 'b' 'c')", 18}, {"load('m', a = ('b'))", 14}, {"load('m', 1)", 10},
		{"load('m', if = 'a')", 10}, {"load('m', 'a',, 'b')", 14}, {"load('m', 'a' b)", 14}, {"load('m', *)", 10}, {"load('m', a b)", 12}, {"load('m', 'a') b", 15}, {"load('m', 'a').b", 14},
		{"load('m', 'a')\n  b", 17}, {"load('m', 'a'), b", 14}, {"load = a", 5}, {"a = load('m', 'b')", 4}, {"(load)", 1}, {"load['m']", 4}, {"load('m', 'a': 'b')", 13},
	} {
		faults(t, x.text, x.pos)
	}
	for _, name := range []string{"", " ", "a b", "1", "1a", "a-b", "if", "None", "load", "a.b", "a\u00e4", "'"} {
		faults(t, `load("m", "`+name+`")`, 10)
		faults(t, `load("m", "a", "`+name+`", *)`, 15)
		faults(t, `load("m", "`+name+`" "a")`, 10)
		passes(t, `load("m", a = "`+name+`")`)
		passes(t, `load("`+name+`", "a")`)
	}
}

// P6.1: break and continue stand in a for alone, return in a def alone, load and def in no other statement: told at the word.
func TestPlaces(t *testing.T) {
	for _, word := range []string{"break", "continue"} {
		faults(t, word, 0)
		faults(t, "a\n"+word+" b", 2)
		faults(t, "if a: "+word, 6)
		faults(t, "if a: b\nelif c: "+word, 16)
		faults(t, "if a: b\nelse: "+word, 14)
		faults(t, "def f(): "+word, 9)
		faults(t, "def f():\n if a: "+word, 16)
		faults(t, "for a in b: c\n"+word, 14)
		faults(t, "for a in b:\n if c: d\n"+word, 21)
		faults(t, "def f():\n for a in b: c\n "+word, 25)
		faults(t, "for a in b: "+word+" c", 13+len(word))
		faults(t, "for a in b: "+word+"()", 12+len(word))
		passes(t, "for a in b: "+word)
		passes(t, "for a in b:\n if c: "+word+"\n elif d: "+word+"\n else: "+word+"\n "+word)
		passes(t, "def f():\n for a in b:\n  "+word+"\n  if a:\n   "+word)
		passes(t, "for a in b:\n for c in d: "+word+"\n "+word)
		passes(t, "for a in b:\n for c in d: e\n "+word)
		passes(t, "if a:\n for b in c:\n  if d: "+word)
	}
	faults(t, "return", 0)
	faults(t, "return a", 0)
	faults(t, "return *", 0)
	faults(t, "if a: return", 6)
	faults(t, "for a in b: return", 12)
	faults(t, "def f(): pass\nreturn", 14)
	faults(t, "def f():\n pass\nif a:\n return", 22)
	faults(t, "def f(): return = a", 16)
	faults(t, "def f(): return a b", 18)
	faults(t, "def f(): return a = b", 18)
	faults(t, "def f(): return pass", 16)
	faults(t, "def f(): return ,", 16)
	isFile(t, "def f(): return a,", "Block@0(Def:f@0(Block@9(Return@9(Tuple@16(Name:a@16)))))")
	isFile(t, "def f(): return (a) + b, c", "Block@0(Def:f@0(Block@9(Return@9(Tuple@16(Add@20(Name:a@17 Name:b@22) Name:c@25)))))")
	passes(t, "def f():\n if a: return\n elif b: return 1\n else:\n  for a in b: return a\n return -1")
	for _, text := range []string{"def f(): pass", "load('m', 'a')", "def", "load", "load = a", "def *"} {
		faults(t, "if a: "+text, 6)
		faults(t, "if a:\n b\n "+text, 10)
		faults(t, "if a: b\nelif c:\n "+text, 17)
		faults(t, "if a: b\nelse:\n "+text, 15)
		faults(t, "for a in b:\n "+text, 13)
		faults(t, "def f():\n "+text, 10)
		faults(t, "def f():\n if a:\n  "+text, 18)
	}
	passes(t, "if a: b\nelse: c\ndef f():\n for a in b: c\nload('m', 'a')\nfor a in b: c\ndef g(): pass")
}
