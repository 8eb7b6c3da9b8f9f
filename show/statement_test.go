package show_test

import (
	"strings"
	"testing"

	"smithy/api"
	"smithy/parse"
	"smithy/show"
)

// P7.1: each statement, byte by byte.
func TestStatements(t *testing.T) {
	for _, x := range [][2]string{
		{"Pass", "pass\n"}, {"Expr(Name:a)", "a\n"}, {"Expr(Tuple(Name:a Name:b))", "(a, b)\n"}, {"Expr(If(Name:a Name:b Name:c))", "b if a else c\n"}, {"Expr(Str:a)", "\"a\"\n"},
		{"Assign(Name:x Name:a)", "x = a\n"}, {"Assign(Index(Name:x Int:0) If(Name:a Name:b Name:c))", "x[0] = b if a else c\n"},
		{"Assign(Tuple(Name:x) Tuple(Name:a))", "(x,) = (a,)\n"}, {"Assign(Tuple(Name:x Tuple(Name:y Index(Name:z Int:0))) Tuple)", "(x, (y, z[0])) = ()\n"},
		{"AddTo(Name:x Int:1)", "x += 1\n"}, {"AddTo(Index(Dot:n(Name:x) Int:0) Tuple(Name:a))", "x.n[0] += (a,)\n"}, {"AddTo(Name:x Not(Name:a))", "x += not a\n"},
		{"Load:m(Param:a(Str:a))", "load(\"m\", \"a\")\n"}, {"Load:m(Param:a(Str:b))", "load(\"m\", a = \"b\")\n"},
		{"Load:m(Param:a(Str:a) Param:b(Str:c) Param:d(Str:d) Param:e(Str))", "load(\"m\", \"a\", b = \"c\", \"d\", e = \"\")\n"},
		{"Load(Param:a(Str:A))", "load(\"\", a = \"A\")\n"}, {`Load:"//a\n\"b"(Param:a(Str:"\t"))`, "load(\"//a\\n\\\"b\", a = \"\\t\")\n"},
		{"Cond(Name:a Block(Pass))", "if a:\n    pass\n"}, {"Cond(Tuple(Name:a Name:b) Block(Pass Pass))", "if (a, b):\n    pass\n    pass\n"}, {"Cond(If(Name:a Name:b Name:c) Block(Pass))", "if b if a else c:\n    pass\n"},
		{"Cond(Name:a Block(Pass) Block(Expr(Name:b)))", "if a:\n    pass\nelse:\n    b\n"},
		{"For(Name:x Name:l Block(Break))", "for x in l:\n    break\n"}, {"For(Tuple(Name:x Name:y) Tuple(Name:a Name:b) Block(Continue Pass))", "for (x, y) in (a, b):\n    continue\n    pass\n"},
		{"For(Tuple(Name:x) If(Name:a Name:b Name:c) Block(Pass))", "for (x,) in b if a else c:\n    pass\n"}, {"For(Index(Name:x Int:0) In(Name:a Name:b) Block(Pass))", "for x[0] in a in b:\n    pass\n"},
		{"Def:f(Block(Return))", "def f():\n    return\n"}, {"Def:f(Param:a Block(Return(Name:a)))", "def f(a):\n    return a\n"},
		{"Def:f(Param:a Param:b Param:c(Int:1) Param:d(If(Name:x Name:y Name:z)) Block(Return(Tuple(Name:a Name:b))))", "def f(a, b, c = 1, d = y if x else z):\n    return (a, b)\n"},
		{"Def:f(Param:a(Tuple(Int:1)) Block(Return(Tuple)))", "def f(a = (1,)):\n    return ()\n"}, {"Def:f(Block(Return(Tuple(Int:1)) Return))", "def f():\n    return (1,)\n    return\n"},
	} {
		l := tree("Block(" + x[0] + ")")
		isText(t, x[0], l, x[1])
		turns(t, l, x[1])
		l = tree("Block(Pass " + x[0] + " " + x[0] + ")")
		isText(t, x[0], l, "pass\n"+x[1]+x[1])
		turns(t, l, "pass\n"+x[1]+x[1])
	}
}

// hasLines holds the text of these statements against its lines.
func hasLines(t *testing.T, statements string, lines []string) {
	t.Helper()
	l := tree("Block(" + statements + ")")
	want := strings.Join(lines, "\n") + "\n"
	isText(t, statements, l, want)
	turns(t, l, want)
}

// P7.1: Blocks in Blocks stand four spaces further in each.
func TestBlocks(t *testing.T) {
	for _, x := range [][]string{
		{"For(Name:x Name:l Block(For(Name:y Name:m Block(Break Pass)) Continue))", "for x in l:", "    for y in m:", "        break", "        pass", "    continue"},
		{"Def:f(Block(For(Name:x Name:l Block(Cond(Name:a Block(Return(Name:x)) Block(Pass)) Pass)) Return)) Pass",
			"def f():", "    for x in l:", "        if a:", "            return x", "        else:", "            pass", "        pass", "    return", "pass"},
		{"Cond(Name:a Block(Cond(Name:b Block(Cond(Name:c Block(Pass))))))", "if a:", "    if b:", "        if c:", "            pass"},
		{"For(Name:x Name:l Block(AddTo(Name:a Int:1) Assign(Name:b Int:1) Expr(Name:c)))", "for x in l:", "    a += 1", "    b = 1", "    c"},
	} {
		hasLines(t, x[0], x[1:])
	}
}

// P7.1: a second Block of one Cond alone is elif; one with something more is none.
func TestElif(t *testing.T) {
	for _, x := range [][]string{
		{"Cond(Name:a Block(Pass) Block(Cond(Name:b Block(Pass))))", "if a:", "    pass", "elif b:", "    pass"},
		{"Cond(Name:a Block(Pass) Block(Cond(Name:b Block(Pass) Block(Pass))))", "if a:", "    pass", "elif b:", "    pass", "else:", "    pass"},
		{"Cond(Name:a Block(Pass) Block(Cond(Name:b Block(Pass) Block(Cond(Name:c Block(Pass) Block(Cond(Name:d Block(Pass) Block(Pass))))))))",
			"if a:", "    pass", "elif b:", "    pass", "elif c:", "    pass", "elif d:", "    pass", "else:", "    pass"},
		{"Cond(Name:a Block(Pass) Block(Cond(Name:b Block(Pass)) Pass))", "if a:", "    pass", "else:", "    if b:", "        pass", "    pass"},
		{"Cond(Name:a Block(Pass) Block(Pass Cond(Name:b Block(Pass) Block(Pass))))", "if a:", "    pass", "else:", "    pass", "    if b:", "        pass", "    else:", "        pass"},
		{"Cond(Name:a Block(Pass) Block(Cond(Name:b Block(Pass)) Cond(Name:c Block(Pass))))", "if a:", "    pass", "else:", "    if b:", "        pass", "    if c:", "        pass"},
		{"Cond(Name:a Block(Pass) Block(For(Name:b Name:c Block(Pass))))", "if a:", "    pass", "else:", "    for b in c:", "        pass"},
		{"Cond(Name:a Block(Cond(Name:b Block(Pass) Block(Cond(Name:c Block(Pass)))) Pass) Block(Cond(Name:d Block(Cond(Name:e Block(Pass))) Block(Cond(Name:f Block(Pass)) Cond(Name:g Block(Pass))))))",
			"if a:", "    if b:", "        pass", "    elif c:", "        pass", "    pass", "elif d:", "    if e:", "        pass", "else:", "    if f:", "        pass", "    if g:", "        pass"},
		{"For(Name:x Name:l Block(Cond(Name:a Block(Pass) Block(Cond(If(Name:b Name:c Name:d) Block(Break) Block(Continue))))))",
			"for x in l:", "    if a:", "        pass", "    elif c if b else d:", "        break", "    else:", "        continue"},
		{"Cond(Name:a Block(Pass) Block(Cond(Tuple(Name:b) Block(Pass))))", "if a:", "    pass", "elif (b,):", "    pass"},
	} {
		hasLines(t, x[0], x[1:])
	}
}

// P7.1, P7.2: trees that ast.Valid takes, though no text is parsed as them.
func TestNotParsed(t *testing.T) {
	for _, x := range [][2]string{
		{"For(Index(Add(Name:a Name:b) Int:0) Name:l Block(Pass))", "for (a + b)[0] in l:\n    pass\n"},
		{"For(Tuple(Index(Int:1 Tuple(Int:0)) Index(If(Name:a Name:b Name:c) Int:0)) Name:l Block(Pass))", "for (1[(0,)], (b if a else c)[0]) in l:\n    pass\n"},
		{"Expr(Comp(Name:a Index(Neg(Name:b) Int:0) Name:c))", "[a for (-b)[0] in c]\n"},
		{"Expr(Call(Name:f Arg:k(Int:1) Arg:k(Int:2)))", "f(k = 1, k = 2)\n"},
	} {
		isText(t, x[0], tree("Block("+x[0]+")"), x[1])
	}
}

// P7.1, P7.3: files as they may be written, and as they are shown.
func TestFiles(t *testing.T) {
	for _, x := range [][2]string{
		{"", "pass\n"}, {"\n\n  # c\n", "pass\n"}, {"pass", "pass\n"}, {"x=1 # c\n\n\ny=x", "x = 1\ny = x\n"},
		{"if a:pass\nelif b:c\nelse:d", "if a:\n    pass\nelif b:\n    c\nelse:\n    d\n"}, {"if a:\n pass\nelse:\n if b:\n  c\n else:\n  d", "if a:\n    pass\nelif b:\n    c\nelse:\n    d\n"},
		{"if(a):\n      b\n      c\nelse :\n d", "if a:\n    b\n    c\nelse:\n    d\n"}, {"for x,in y,:pass", "for (x,) in (y,):\n    pass\n"}, {"for(x)in(y):pass", "for x in y:\n    pass\n"},
		{"for(x,y[0]),z in a:pass", "for ((x, y[0]), z) in a:\n    pass\n"}, {"def f(a,b=1,):return a,b", "def f(a, b = 1):\n    return (a, b)\n"}, {"def f(\n):\n return(\n)", "def f():\n    return ()\n"},
		{"load('m','a',b='b',c='d',)", "load(\"m\", \"a\", \"b\", c = \"d\")\n"}, {"x,=y", "(x,) = y\n"}, {"(x)=(y)", "x = y\n"}, {"(x),(y[0])=((a)),", "(x, y[0]) = (a,)\n"}, {"x+=1,", "x += (1,)\n"},
		{"'a' \"b\" '\\'\"'", "\"ab'\\\"\"\n"}, {"x = (1 +\n 2) * [\n]", "x = (1 + 2) * []\n"}, {"f(a,\n  k=b,)", "f(a, k = b)\n"}, {"not(a)", "not a\n"}, {"-(1)", "-1\n"}, {"(((a)))", "a\n"},
		{"a if b else(c if d else e)", "a if b else c if d else e\n"}, {"{a:b,\nc:d,}", "{a: b, c: d}\n"}, {"[a for b,c in d if e]", "[a for (b, c) in d if e]\n"}, {"a [ : ] [ b : ] . c", "a[:][b:].c\n"}, {"1 .n", "(1).n\n"},
	} {
		l, err := parse.Parse(x[0])
		if err != nil {
			t.Errorf("%q: %v", x[0], err)
			continue
		}
		isText(t, x[0], l, x[1])
		turns(t, l, x[1])
	}
}

// P7.1: the statements of the whole are all there, in the order of the Block's kids.
func TestManyStatements(t *testing.T) {
	var file []api.Node
	var kids []int
	want := ""
	for i := range 2000 {
		name := "x" + strings.Repeat("y", i%7)
		file = append(file, api.Node{Op: api.NName, S: name}, api.Node{Op: api.NExpr, Kids: []int{2 * i}})
		kids = append(kids, 2*i+1)
		want += name + "\n"
	}
	file = append(file, api.Node{Op: api.NBlock, Kids: kids})
	isText(t, "many", file, want)
	if again, err := show.Text(file); again != want || err != nil {
		t.Error("asked again:", err)
	}
	turns(t, file, want)
}
