package parse_test

import (
	"strings"
	"testing"
)

// P6.1: what stands alone.
func TestAtoms(t *testing.T) {
	isExpr(t, "a", "Name:a@0")
	isExpr(t, "_a1 # c", "Name:_a1@0")
	isExpr(t, "0", "Int:0@0")
	isExpr(t, "(107)", "Int:107@1")
	isExpr(t, "None", "None@0")
	isExpr(t, "True", "True@0")
	isExpr(t, "False", "False@0")
	isExpr(t, "'if'", "Str:if@0")
	isExpr(t, "none", "Name:none@0")
	for _, text := range []string{"=", ":", ".", "*", "+", "//", "<", "and", "or", "in", "if", "else", "for", ",", "+=", "def", "load", "elif", "pass", "+1", "*a", "==a"} {
		exprFaults(t, "("+text+")", 1)
	}
}

// P6.1: strings one behind the other are one, at the first.
func TestStrings(t *testing.T) {
	isExpr(t, `'a' "b"  'c'`, "Str:abc@0")
	isExpr(t, `''''`, "Str@0")
	isExpr(t, `('a' # c`+"\n 'b')", "Str:ab@1")
	isExpr(t, `'(' ')' [0]`, "Index@8(Str:()@0 Int:0@9)")
	isExpr(t, `a + 'x''y' * b`, "Add@2(Name:a@0 Mul@11(Str:xy@4 Name:b@13))")
	isExpr(t, `'not' '-'`, "Str:not-@0")
	exprFaults(t, `'a' 1`, 4)
	exprFaults(t, `'a' b`, 4)
	exprFaults(t, `1 'a'`, 2)
	exprFaults(t, `a 'a'`, 2)
	exprFaults(t, `'a' ('b') 'c'`, 10)
	faults(t, "'a'\n  'b'", 6)
	isFile(t, "'a'\n'b'", "Block@0(Expr@0(Str:a@0) Expr@4(Str:b@4))")
}

// binarySigns is each binary sign, its node, and what binds more has a greater rank.
var binarySigns = []struct {
	sign, op string
	rank     int
}{
	{"or", "Or", 1}, {"and", "And", 2},
	{"==", "Eq", 4}, {"!=", "Ne", 4}, {"<", "Lt", 4}, {"<=", "Le", 4}, {">", "Gt", 4}, {">=", "Ge", 4}, {"in", "In", 4}, {"not in", "NotIn", 4},
	{"+", "Add", 5}, {"-", "Sub", 5}, {"*", "Mul", 6}, {"//", "Div", 6}, {"%", "Mod", 6},
}

// P6.1: each binary sign against each other one: that of the greater rank binds first, of one rank the left one; a
// compare stands behind no compare.
func TestBinaryPairs(t *testing.T) {
	const compares = 4
	for _, x := range binarySigns {
		for _, y := range binarySigns {
			text := "a " + x.sign + " b " + y.sign + " c"
			first, second := 2, 5+len(x.sign)
			b, c := itoa(second-2), itoa(second+len(y.sign)+1)
			left := x.op + "@" + itoa(first) + "(Name:a@0 "
			right := y.op + "@" + itoa(second) + "("
			switch {
			case x.rank == compares && y.rank == compares:
				exprFaults(t, text, second)
			case y.rank > x.rank:
				isExpr(t, text, left+right+"Name:b@"+b+" Name:c@"+c+"))")
			default:
				isExpr(t, text, right+left+"Name:b@"+b+") Name:c@"+c+")")
			}
		}
	}
}

// P6.1: of each binary sign both sides are needed.
func TestBinarySides(t *testing.T) {
	for _, x := range binarySigns {
		end := 4 + len(x.sign)
		exprFaults(t, "(a "+x.sign+")", end-1)
		exprFaults(t, "a "+x.sign, end-2)
		exprFaults(t, "a "+x.sign+" * b", end-1)
		exprFaults(t, "a "+x.sign+" , b", end-1)
		if x.sign != "-" && x.sign != "not in" {
			exprFaults(t, x.sign+" b", 0)
		}
	}
	exprFaults(t, "not in b", 4)
}

// P6.1: a compare behind a compare, whatever stands between; brackets part them.
func TestCompares(t *testing.T) {
	exprFaults(t, "a < b + 1 < c", 10)
	exprFaults(t, "a in b not in c", 7)
	exprFaults(t, "a not in b not in c", 11)
	exprFaults(t, "a < b not c", 6)
	exprFaults(t, "a not in not b", 9)
	exprFaults(t, "a < not b", 4)
	exprFaults(t, "a not not in b", 6)
	exprFaults(t, "a not", 5)
	exprFaults(t, "(a not)", 6)
	exprFaults(t, "a not is b", 6)
	exprFaults(t, "a in not b", 5)
	isExpr(t, "(a < b) < c", "Lt@8(Lt@3(Name:a@1 Name:b@5) Name:c@10)")
	isExpr(t, "a < (b < c)", "Lt@2(Name:a@0 Lt@7(Name:b@5 Name:c@9))")
	isExpr(t, "a < b and b < c", "And@6(Lt@2(Name:a@0 Name:b@4) Lt@12(Name:b@10 Name:c@14))")
	isExpr(t, "not a not in b", "Not@0(NotIn@6(Name:a@4 Name:b@13))")
	isExpr(t, "a not  in -b", "NotIn@2(Name:a@0 Neg@10(Name:b@11))")
	isExpr(t, "a + b not in c * d", "NotIn@6(Add@2(Name:a@0 Name:b@4) Mul@15(Name:c@13 Name:d@17))")
}

// P6.1: `not` and `-` of one, many times, and what each of them binds.
func TestOneSided(t *testing.T) {
	isExpr(t, "not not not a", "Not@0(Not@4(Not@8(Name:a@12)))")
	isExpr(t, "---a", "Neg@0(Neg@1(Neg@2(Name:a@3)))")
	isExpr(t, "- - a", "Neg@0(Neg@2(Name:a@4))")
	isExpr(t, "not -a", "Not@0(Neg@4(Name:a@5))")
	isExpr(t, "not a == b", "Not@0(Eq@6(Name:a@4 Name:b@9))")
	isExpr(t, "not a and b", "And@6(Not@0(Name:a@4) Name:b@10)")
	isExpr(t, "a and not b or not c", "Or@12(And@2(Name:a@0 Not@6(Name:b@10)) Not@15(Name:c@19))")
	isExpr(t, "-a.b[0](1)", "Neg@0(Call@7(Index@4(Dot:b@2(Name:a@1) Int:0@5) Int:1@8))")
	isExpr(t, "-a + -b", "Add@3(Neg@0(Name:a@1) Neg@5(Name:b@6))")
	isExpr(t, "a--b", "Sub@1(Name:a@0 Neg@2(Name:b@3))")
	isExpr(t, "a - - - b", "Sub@2(Name:a@0 Neg@4(Neg@6(Name:b@8)))")
	isExpr(t, "-1", "Neg@0(Int:1@1)")
	isExpr(t, "a * -b * c", "Mul@7(Mul@2(Name:a@0 Neg@4(Name:b@5)) Name:c@9)")
	isExpr(t, "not a if not b else not c", "If@6(Not@9(Name:b@13) Not@0(Name:a@4) Not@20(Name:c@24))")
	exprFaults(t, "-not a", 1)
	exprFaults(t, "a + not b", 4)
	exprFaults(t, "a * not b", 4)
	exprFaults(t, "not", 3)
	exprFaults(t, "-", 1)
	exprFaults(t, "(not)", 4)
	exprFaults(t, "a not", 5)
	exprFaults(t, "-+a", 1)
}

// P6.1: an If, alone and within others; the condition is the second, and is no If itself.
func TestIfs(t *testing.T) {
	isExpr(t, "a if b else c", "If@2(Name:b@5 Name:a@0 Name:c@12)")
	isExpr(t, "a if b else c if d else e", "If@2(Name:b@5 Name:a@0 If@14(Name:d@17 Name:c@12 Name:e@24))")
	isExpr(t, "(a if b else c) if d else e", "If@16(Name:d@19 If@3(Name:b@6 Name:a@1 Name:c@13) Name:e@26)")
	isExpr(t, "a if (b if c else d) else e", "If@2(If@8(Name:c@11 Name:b@6 Name:d@18) Name:a@0 Name:e@26)")
	isExpr(t, "a or b if c or d else e or f", "If@7(Or@12(Name:c@10 Name:d@15) Or@2(Name:a@0 Name:b@5) Or@24(Name:e@22 Name:f@27))")
	isExpr(t, "-a if b else c", "If@3(Name:b@6 Neg@0(Name:a@1) Name:c@13)")
	isExpr(t, "a, b if c else d, e", "Tuple@0(Name:a@0 If@5(Name:c@8 Name:b@3 Name:d@15) Name:e@18)")
	exprFaults(t, "a if b", 6)
	exprFaults(t, "(a if b)", 7)
	exprFaults(t, "a if b if c else d else e", 7)
	exprFaults(t, "a if b, c else d", 6)
	exprFaults(t, "a if else b", 5)
	exprFaults(t, "a if b else", 11)
	exprFaults(t, "a else b", 2)
	exprFaults(t, "a if b elif c else d", 7)
	exprFaults(t, "1 + if a else b", 4)
	exprFaults(t, "a if b else c else d", 14)
}

// P6.1: Tuples without brackets: at their first token; and what one, or a comma, is.
func TestBareTuples(t *testing.T) {
	isExpr(t, "a,", "Tuple@0(Name:a@0)")
	isExpr(t, "a, b", "Tuple@0(Name:a@0 Name:b@3)")
	isExpr(t, "a, b, 1,", "Tuple@0(Name:a@0 Name:b@3 Int:1@6)")
	isExpr(t, "a + b, c", "Tuple@0(Add@2(Name:a@0 Name:b@4) Name:c@7)")
	isExpr(t, "f(x), c", "Tuple@0(Call@1(Name:f@0 Name:x@2) Name:c@6)")
	isExpr(t, "(a), b", "Tuple@0(Name:a@1 Name:b@5)")
	isExpr(t, "((a)), b", "Tuple@0(Name:a@2 Name:b@7)")
	isExpr(t, "(a, b), c", "Tuple@0(Tuple@0(Name:a@1 Name:b@4) Name:c@8)")
	isExpr(t, "(a).b,", "Tuple@0(Dot:b@3(Name:a@1))")
	isExpr(t, "'a' 'b',", "Tuple@0(Str:ab@0)")
	isFile(t, "x = (a) + 1, b", "Block@2(Assign@2(Name:x@0 Tuple@4(Add@8(Name:a@5 Int:1@10) Name:b@13)))")
	isFile(t, "(a)[0], b = c", "Block@10(Assign@10(Tuple@0(Index@3(Name:a@1 Int:0@4) Name:b@8) Name:c@12))")
	exprFaults(t, ",", 0)
	exprFaults(t, "a,,", 2)
	exprFaults(t, "a, , b", 3)
	exprFaults(t, "a, * b", 3)
	exprFaults(t, "a, b c", 5)
}

// P6.1: brackets around what is as it were without them, but a Tuple, which is at them.
func TestBrackets(t *testing.T) {
	isExpr(t, "()", "Tuple@0")
	isExpr(t, "(())", "Tuple@1")
	isExpr(t, "((),)", "Tuple@0(Tuple@1)")
	isExpr(t, "(), ()", "Tuple@0(Tuple@0 Tuple@4)")
	isExpr(t, "(a)", "Name:a@1")
	isExpr(t, "(((a)))", "Name:a@3")
	isExpr(t, "( a , )", "Tuple@0(Name:a@2)")
	isExpr(t, "((a,))", "Tuple@1(Name:a@2)")
	isExpr(t, "((a, b))", "Tuple@1(Name:a@2 Name:b@5)")
	isExpr(t, "((a), b)", "Tuple@0(Name:a@2 Name:b@6)")
	isExpr(t, "(\na\n,\nb\n)", "Tuple@0(Name:a@2 Name:b@6)")
	isExpr(t, "(-a)", "Neg@1(Name:a@2)")
	isExpr(t, "(a + b) * c", "Mul@8(Add@3(Name:a@1 Name:b@5) Name:c@10)")
	isExpr(t, "a - (b - c)", "Sub@2(Name:a@0 Sub@7(Name:b@5 Name:c@9))")
	isExpr(t, "(a or b) and c", "And@9(Or@3(Name:a@1 Name:b@6) Name:c@13)")
	isExpr(t, "(not a) == b", "Eq@8(Not@1(Name:a@5) Name:b@11)")
	isExpr(t, "(-a).b", "Dot:b@4(Neg@1(Name:a@2))")
	isExpr(t, "(f)(a)", "Call@3(Name:f@1 Name:a@4)")
	isExpr(t, "(a, b)[0]", "Index@6(Tuple@0(Name:a@1 Name:b@4) Int:0@7)")
	exprFaults(t, "(,)", 1)
	exprFaults(t, "(a,,)", 3)
	exprFaults(t, "(a b)", 3)
	exprFaults(t, "(a = b)", 3)
	exprFaults(t, "(a: b)", 2)
	exprFaults(t, "(a for a in b)", 3)
	exprFaults(t, "(a, b +)", 7)
	exprFaults(t, "(pass)", 1)
}

// P6.1: Lists and Dicts.
func TestListsAndDicts(t *testing.T) {
	isExpr(t, "[]", "List@0")
	isExpr(t, "[a]", "List@0(Name:a@1)")
	isExpr(t, "[a,]", "List@0(Name:a@1)")
	isExpr(t, "[a, 1, [b]]", "List@0(Name:a@1 Int:1@4 List@7(Name:b@8))")
	isExpr(t, "[(a, b), ()]", "List@0(Tuple@1(Name:a@2 Name:b@5) Tuple@9)")
	isExpr(t, "[a if b else c, d]", "List@0(If@3(Name:b@6 Name:a@1 Name:c@13) Name:d@16)")
	isExpr(t, "{}", "Dict@0")
	isExpr(t, "{a: b}", "Dict@0(Name:a@1 Name:b@4)")
	isExpr(t, "{a: b, 1: 2,}", "Dict@0(Name:a@1 Name:b@4 Int:1@7 Int:2@10)")
	isExpr(t, "{a if b else c: d or e}", "Dict@0(If@3(Name:b@6 Name:a@1 Name:c@13) Or@18(Name:d@16 Name:e@21))")
	isExpr(t, "{():{}}", "Dict@0(Tuple@1 Dict@4)")
	for _, x := range []struct {
		text string
		pos  int
	}{
		{"[,]", 1}, {"[a,,]", 3}, {"[a b]", 3}, {"[a: b]", 2}, {"[a = b]", 3}, {"[a +]", 4}, {"[:]", 1}, {"[a, b c]", 6}, {"[*a]", 1},
		{"{a}", 2}, {"{a,}", 2}, {"{a:}", 3}, {"{:a}", 1}, {"{,}", 1}, {"{a: b,,}", 6}, {"{a: b c}", 6}, {"{a: b: c}", 5}, {"{a: b, c}", 8},
		{"{a: b, c,}", 8}, {"{a: b for a in b}", 6}, {"{a = b}", 3}, {"{a, b: c}", 2}, {"{(a): b, : c}", 9},
	} {
		exprFaults(t, x.text, x.pos)
	}
}

// P6.1: Comps, with a condition and without one.
func TestComps(t *testing.T) {
	isExpr(t, "[a for b in c]", "Comp@0(Name:a@1 Name:b@7 Name:c@12)")
	isExpr(t, "[a for b in c if d]", "Comp@0(Name:a@1 Name:b@7 Name:c@12 Name:d@17)")
	isExpr(t, "[a if b else c for d in e]", "Comp@0(If@3(Name:b@6 Name:a@1 Name:c@13) Name:d@19 Name:e@24)")
	isExpr(t, "[(a, b) for c, in d]", "Comp@0(Tuple@1(Name:a@2 Name:b@5) Tuple@12(Name:c@12) Name:d@18)")
	isExpr(t, "[a for b in c or d if e or f]", "Comp@0(Name:a@1 Name:b@7 Or@14(Name:c@12 Name:d@17) Or@24(Name:e@22 Name:f@27))")
	isExpr(t, "[a for b in not c not in d]", "Comp@0(Name:a@1 Name:b@7 Not@12(NotIn@18(Name:c@16 Name:d@25)))")
	isExpr(t, "[[a for b in c] for c in d]", "Comp@0(Comp@1(Name:a@2 Name:b@8 Name:c@13) Name:c@20 Name:d@25)")
	isExpr(t, "[a for b in (c if d else e) if (f if g else h)]",
		"Comp@0(Name:a@1 Name:b@7 If@15(Name:d@18 Name:c@13 Name:e@25) If@34(Name:g@37 Name:f@32 Name:h@44))")
	isExpr(t, "[a for b in c][0]", "Index@14(Comp@0(Name:a@1 Name:b@7 Name:c@12) Int:0@15)")
	isExpr(t, "[a for b, (c, d[0]), in e]", "Comp@0(Name:a@1 Tuple@7(Name:b@7 Tuple@10(Name:c@11 Index@15(Name:d@14 Int:0@16))) Name:e@24)")
	for _, x := range []struct {
		text string
		pos  int
	}{
		{"[for a in b]", 1}, {"[a, b for a in c]", 6}, {"[a, for a in c]", 4}, {"[a for b in c, d]", 13}, {"[a for b in c,]", 13},
		{"[a for b in c if d if e]", 19}, {"[a for b in c if d else e]", 19}, {"[a for b in c for d in e]", 14}, {"[a for b in]", 11},
		{"[a for b]", 8}, {"[a for in b]", 7}, {"[a for]", 6}, {"[a for b in c if]", 16}, {"[a for b in c else d]", 14},
		{"[a for b in c if d, e]", 18}, {"[a for b not in c]", 9}, {"[() for]", 7}, {"[a for b = c]", 9}, {"[a in b for]", 11},
	} {
		exprFaults(t, x.text, x.pos)
	}
}

// P6.1: Calls, with arguments by place and by name.
func TestCalls(t *testing.T) {
	isExpr(t, "f()", "Call@1(Name:f@0)")
	isExpr(t, "f ( )", "Call@2(Name:f@0)")
	isExpr(t, "f(a)", "Call@1(Name:f@0 Name:a@2)")
	isExpr(t, "f(a,)", "Call@1(Name:f@0 Name:a@2)")
	isExpr(t, "f(a, b,)", "Call@1(Name:f@0 Name:a@2 Name:b@5)")
	isExpr(t, "f((a, b))", "Call@1(Name:f@0 Tuple@2(Name:a@3 Name:b@6))")
	isExpr(t, "f(k = a)", "Call@1(Name:f@0 Arg:k@2(Name:a@6))")
	isExpr(t, "f(a, k = b, l=c,)", "Call@1(Name:f@0 Name:a@2 Arg:k@5(Name:b@9) Arg:l@12(Name:c@14))")
	isExpr(t, "f(a if b else c, k = d if e else f)", "Call@1(Name:f@0 If@4(Name:b@7 Name:a@2 Name:c@14) Arg:k@17(If@23(Name:e@26 Name:d@21 Name:f@33)))")
	isExpr(t, "f(a == b, a, a = a)", "Call@1(Name:f@0 Eq@4(Name:a@2 Name:b@7) Name:a@10 Arg:a@13(Name:a@17))")
	isExpr(t, "f()(a)()", "Call@6(Call@3(Call@1(Name:f@0) Name:a@4))")
	isExpr(t, "1(2)", "Call@1(Int:1@0 Int:2@2)")
	isExpr(t, "'a'('b')", "Call@3(Str:a@0 Str:b@4)")
	isExpr(t, "f(\n a,\n b\n)", "Call@1(Name:f@0 Name:a@4 Name:b@8)")
	isExpr(t, "f(k = g(k = 1))", "Call@1(Name:f@0 Arg:k@2(Call@7(Name:g@6 Arg:k@8(Int:1@12))))")
	for _, x := range []struct {
		text string
		pos  int
	}{
		{"f(,)", 2}, {"f(a,,)", 4}, {"f(a b)", 4}, {"f(a =)", 5}, {"f(= a)", 2}, {"f(a.b = c)", 6}, {"f((a) = b)", 6}, {"f(1 = a)", 4}, {"f('a' = b)", 6},
		{"f(None = a)", 7}, {"f(if = a)", 2}, {"f(a = b = c)", 8}, {"f(a += b)", 4}, {"f(a for a in b)", 4}, {"f(*a)", 2}, {"f(a: b)", 3}, {"f(a, b +)", 8},
		{"f(a = b c)", 8}, {"f(a = b,,)", 8}, {"f(pass)", 2}, {"f(a = , b)", 6},
	} {
		exprFaults(t, x.text, x.pos)
	}
}

// P6.1: in a call names are there once, and behind one with a name only such stand: the fault is at the argument.
func TestArgumentsOutOfTurn(t *testing.T) {
	for _, x := range []struct {
		text string
		pos  int
	}{
		{"f(a = 1, a = 2)", 9}, {"f(a = 1, b = 2, a = 3)", 16}, {"f(a = 1, b = 2, b = 3)", 16}, {"f(a = 1, a = )", 9}, {"f(a = 1, a = 1, 2)", 9},
		{"f(a = 1, b)", 9}, {"f(a = 1, a)", 9}, {"f(a = 1, 2)", 9}, {"f(a = 1, b.c)", 9}, {"f(a = 1, b == 2)", 9}, {"f(a = 1, b.c = 2)", 9},
		{"f(a = 1, (b))", 9}, {"f(a = 1, -b)", 9}, {"f(a = 1, not b)", 9}, {"f(a = 1, 'b')", 9}, {"f(a = 1, [b])", 9}, {"f(a = 1, {})", 9}, {"f(a = 1, None)", 9},
		{"f(a = 1, b + )", 9}, {"f(a = 1, 2 + )", 9}, {"f(a = 1, b c)", 9}, {"f(x, a = 1, b)", 12}, {"f(a = 1, *)", 9}, {"f(a = 1, b,)", 9},
		{"f(a = g(b = 1, c), d)", 15}, {"f(a = g(b = 1), c)", 16}, {"f(a = 1, g(b = 1, b = 2))", 9},
	} {
		exprFaults(t, x.text, x.pos)
	}
	isExpr(t, "f(a = g(a = 1), b = g(a = 2))",
		"Call@1(Name:f@0 Arg:a@2(Call@7(Name:g@6 Arg:a@8(Int:1@12))) Arg:b@16(Call@21(Name:g@20 Arg:a@22(Int:2@26))))")
	isExpr(t, "f(a = 1)(a = 2)(3)", "Call@15(Call@8(Call@1(Name:f@0 Arg:a@2(Int:1@6)) Arg:a@9(Int:2@13)) Int:3@16)")
	isExpr(t, "f(a = g(1), b = h(2))", "Call@1(Name:f@0 Arg:a@2(Call@7(Name:g@6 Int:1@8)) Arg:b@12(Call@17(Name:h@16 Int:2@18)))")
	isExpr(t, "f(g(a = 1), 2)", "Call@1(Name:f@0 Call@3(Name:g@2 Arg:a@4(Int:1@8)) Int:2@12)")
	many := "f("
	for i := range 8000 {
		many += "a" + itoa(i) + "=1,"
	}
	passes(t, many+")")
	faults(t, many+"a7=1)", len(many))
}

// P6.1: Index, and Slice with each part left out; Nothing is where it is left out.
func TestIndices(t *testing.T) {
	isExpr(t, "a[b]", "Index@1(Name:a@0 Name:b@2)")
	isExpr(t, "a[b:c]", "Slice@1(Name:a@0 Name:b@2 Name:c@4)")
	isExpr(t, "a[b:]", "Slice@1(Name:a@0 Name:b@2 Nothing@4)")
	isExpr(t, "a[:c]", "Slice@1(Name:a@0 Nothing@2 Name:c@3)")
	isExpr(t, "a[:]", "Slice@1(Name:a@0 Nothing@2 Nothing@3)")
	isExpr(t, "a [ : ]", "Slice@2(Name:a@0 Nothing@4 Nothing@6)")
	isExpr(t, "a[0][1:][2]", "Index@8(Slice@4(Index@1(Name:a@0 Int:0@2) Int:1@5 Nothing@7) Int:2@9)")
	isExpr(t, "a[b if c else d:-e]", "Slice@1(Name:a@0 If@4(Name:c@7 Name:b@2 Name:d@14) Neg@16(Name:e@17))")
	isExpr(t, "a[(b, c)]", "Index@1(Name:a@0 Tuple@2(Name:b@3 Name:c@6))")
	isExpr(t, "[a][0]", "Index@3(List@0(Name:a@1) Int:0@4)")
	isExpr(t, "{a: b}[a:b]", "Slice@6(Dict@0(Name:a@1 Name:b@4) Name:a@7 Name:b@9)")
	for _, x := range []struct {
		text string
		pos  int
	}{
		{"a[]", 2}, {"a[b, c]", 3}, {"a[b,]", 3}, {"a[b:c:d]", 5}, {"a[::]", 3}, {"a[:b, c]", 4}, {"a[,]", 2}, {"a[b c]", 4}, {"a[b = c]", 4},
		{"a[b:c d]", 6}, {"a[b:,]", 4}, {"a[:for]", 3}, {"a[for]", 2}, {"a[b for b in c]", 4},
	} {
		exprFaults(t, x.text, x.pos)
	}
}

// P6.1: Dots, at the point.
func TestDots(t *testing.T) {
	isExpr(t, "a.b", "Dot:b@1(Name:a@0)")
	isExpr(t, "a . b.c", "Dot:c@5(Dot:b@2(Name:a@0))")
	isExpr(t, "'a'.b(1).c[2]", "Index@10(Dot:c@8(Call@5(Dot:b@3(Str:a@0) Int:1@6)) Int:2@11)")
	isExpr(t, "1.a", "Dot:a@1(Int:1@0)")
	isExpr(t, "None.a", "Dot:a@4(None@0)")
	isExpr(t, "().a", "Dot:a@2(Tuple@0)")
	for _, text := range []string{"a.1", "a.'b'", "a.if", "a.None", "a.", "a.(b)", "a..b", "a.[0]", "a.not"} {
		exprFaults(t, text, 2)
	}
	exprFaults(t, ".a", 0)
	exprFaults(t, "(a.)", 3)
}

// P6.1: many of one sort in a row, from the left.
func TestLongRows(t *testing.T) {
	for _, sign := range []string{"+", "-", "*", "//", "%", " or ", " and "} {
		passes(t, "a"+strings.Repeat(sign+"a", 9000))
	}
	for _, text := range []string{"[0]", "()", ".b", "[:]", "(a)", "(k=1)"} {
		passes(t, "a"+strings.Repeat(text, 9000))
	}
	for _, text := range []string{"1,", "(),", "[],", "{},", "-1,", "not 1,", "1 if 1 else 1,", "f(),", "[a for (a) in a],"} {
		row := strings.Repeat(text, 3000)
		passes(t, row)
		passes(t, "("+row+")")
		passes(t, "["+row+"]")
		passes(t, "f("+row+")")
	}
	passes(t, "{"+strings.Repeat("1:2,", 9000)+"}")
	passes(t, strings.Repeat("a\n", 1<<15))
	passes(t, strings.Repeat("''", 1<<15))
}
