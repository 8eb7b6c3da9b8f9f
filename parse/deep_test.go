package parse_test

import (
	"math/rand"
	"strings"
	"testing"

	"smithy/api"
	"smithy/lex"
)

// P6.1: each kind within itself, MaxDeep of them and one more, which is told at its own token.
func TestDeepOfOneKind(t *testing.T) {
	for _, x := range []struct {
		head string
		at   int
	}{
		{"-", 0},
		{"not ", 0},
		{"1 if 1 else ", 2},
	} {
		passes(t, strings.Repeat(x.head, api.MaxDeep)+"a")
		limits(t, strings.Repeat(x.head, api.MaxDeep+1)+"a", api.MaxDeep*len(x.head)+x.at)
		limits(t, strings.Repeat(x.head, api.MaxDeep+1)+"a b", api.MaxDeep*len(x.head)+x.at)
		limits(t, strings.Repeat(x.head, 3*api.MaxDeep)+"a", api.MaxDeep*len(x.head)+x.at)
	}
	for _, bracket := range []string{"(a,)", "[a]", "{1: a}", "f(a)", "f(k = a)", "b[a]", "b[a:]", "b[:a]", "[a for b in c]", "[b for c in a]", "[b for c in d if a]", "(a)"} {
		head, tail, _ := strings.Cut(bracket, "a")
		passes(t, strings.Repeat(head, api.MaxDeep)+"a"+strings.Repeat(tail, api.MaxDeep))
	}
	// Of a condition in brackets there are two each time.
	head, tail := "1 if (", ") else 1"
	passes(t, strings.Repeat(head, 30)+"a"+strings.Repeat(tail, 30))
	limits(t, strings.Repeat(head, 31)+"a"+strings.Repeat(tail, 31), 30*len(head)+2)
}

// P6.1: each kind within MaxDeep others, at its own token, whatever is in it; within one less it may be.
func TestDeepOfEachKind(t *testing.T) {
	for _, x := range []struct {
		text string
		at   int
	}{
		{"()", 0}, {"(a)", 0}, {"(a, b)", 0}, {"[]", 0}, {"[a]", 0}, {"{}", 0}, {"{a: b}", 0}, {"f()", 1}, {"f(a)", 1}, {"f(k = a)", 1}, {"a[b]", 1}, {"a[:]", 1}, {"a.b.c[d:e]", 5},
		{"-a", 0}, {"a.b(c)", 3}, {"[a for b in c]", 0}, {"'a'()", 3}, {"a()", 1},
	} {
		deep := strings.Repeat("-", api.MaxDeep-1)
		passes(t, deep+x.text)
		limits(t, deep+"-"+x.text, api.MaxDeep+x.at)
		passes(t, "a = f(k = "+deep[1:]+x.text+")")
		limits(t, "a = f(k = "+deep+x.text+")", 10+len(deep)+x.at)
	}
	deep := strings.Repeat("not ", api.MaxDeep-1)
	for _, x := range []struct {
		text string
		at   int
	}{{"not a", 0}, {"a == -b", 5}, {"a not in -b", 9}, {"a + b * -c", 8}, {"a not in not_b()", 14}} {
		passes(t, deep+x.text)
		limits(t, deep+"not "+x.text, len(deep)+4+x.at)
	}
	open := strings.Repeat("(", api.MaxDeep-1)
	shut := strings.Repeat(")", api.MaxDeep-1)
	for _, x := range []struct {
		text string
		at   int
	}{{"a if b else c", 2}, {"not a", 0}, {"-a", 0}, {"a or not b", 5}, {"a, b, -c", 6}} {
		passes(t, open+x.text+shut)
		limits(t, open+"["+x.text+"]"+shut, len(open)+1+x.at)
	}
	limits(t, open+"a if b else c if d else e"+shut, len(open)+14)
}

// P6.1: what is no bracket's inside, no condition or last part, and what is bounded by nothing.
func TestNotDeep(t *testing.T) {
	deep := strings.Repeat("-", api.MaxDeep)
	passes(t, deep+"1 if "+deep[1:]+"1 else "+deep[1:]+"1")
	limits(t, "1 if "+deep+"1 else 1", 64)
	limits(t, "1 if 1 else "+deep+"1", 71)
	passes(t, deep+"1 not in "+deep+"1")
	passes(t, deep+"1 + "+deep+"1 - "+deep+"1")
	passes(t, "not 1 and "+deep+"1 or "+strings.Repeat("not ", api.MaxDeep)+"1")
	passes(t, "a["+deep[1:]+"1:"+deep[1:]+"1]")
	limits(t, "a["+deep+"1:1]", 61)
	limits(t, "a[1:"+deep+"1]", 63)
	passes(t, "{"+deep[1:]+"1:"+deep[1:]+"1}")
	passes(t, "[a for b in "+deep[1:]+"1 if "+deep[1:]+"1]")
	limits(t, "[a for b in c if "+deep+"1]", 76)
	limits(t, "[a for b in "+deep+"1]", 71)
	passes(t, "def f(a = "+deep+"1, b = "+deep+"1):\n  return "+deep[1:]+"1")
	limits(t, "def f(a = "+deep+"-1): pass", 70)
	limits(t, "def f(a = "+deep+"1): "+deep+"1", 74+59)
	passes(t, "def f(a = "+strings.Repeat("(", 59)+"-1"+strings.Repeat(")", 59)+"): pass")
	passes(t, deep+"a.b.c")
	passes(t, deep+"1, "+deep+"1")
	passes(t, "("+deep[1:]+"1)(2)[3]"+strings.Repeat("(4)", 100))
	passes(t, "("+deep[1:]+"1)[ "+deep[1:]+"1]")
	passes(t, "for a in "+deep+"1: "+deep[1:]+"1")
	limits(t, "for a in b: "+deep+"1", 12+59)
	passes(t, "if "+deep+"1: "+deep[1:]+"1")
	limits(t, "if a: "+deep+"1", 6+59)
	passes(t, "for a["+deep[1:]+"1] in b: c")
	limits(t, "for a["+deep+"1] in b: c", 6+59)
	passes(t, "for "+strings.Repeat("(", 60)+"a"+strings.Repeat(")", 60)+" in b: c")
	passes(t, "for "+strings.Repeat("(", 40)+"a["+deep[:19]+"1]"+strings.Repeat(")", 40)+" in b: c")
	limits(t, "for "+strings.Repeat("(", 40)+"a["+deep[:20]+"1]"+strings.Repeat(")", 40)+" in b: c", 4+40+2+19)
}

// P6.1: an elif is bounded with all that stands in it and behind it; an if and an else are not.
func TestDeepElifs(t *testing.T) {
	const first, more = "if a: b\n", "elif a: b\n"
	elifs := func(n int) string { return first + strings.Repeat(more, n) }
	passes(t, elifs(api.MaxDeep-1))
	passes(t, elifs(api.MaxDeep-1)+"else: b")
	limits(t, elifs(api.MaxDeep), len(elifs(api.MaxDeep-1))+6)
	limits(t, elifs(api.MaxDeep)+"else: b", len(elifs(api.MaxDeep-1))+6)
	limits(t, elifs(3*api.MaxDeep), len(elifs(api.MaxDeep-1))+6)
	for _, n := range []int{1, 2, 30, 58, 59} {
		head := elifs(n - 1)
		deep := strings.Repeat("-", api.MaxDeep-n)
		passes(t, head+"elif "+deep+"1: b")
		limits(t, head+"elif "+deep+"-1: b", len(head)+5+len(deep))
		passes(t, head+"elif a: "+deep[1:]+"b")
		limits(t, head+"elif a: "+deep+"b", len(head)+8+len(deep)-1)
		passes(t, head+more+"else: "+deep[1:]+"b")
		limits(t, head+more+"else: "+deep+"b", len(head)+len(more)+6+len(deep)-1)
		passes(t, head+more+strings.Repeat("-", api.MaxDeep)+"b")
	}
	passes(t, strings.Repeat("if a: b\nelif a: b\nelse: b\n", 100))
	// Each elif is within the blocks around the if.
	limits(t, "if a:\n "+strings.Join(strings.Split(elifs(api.MaxDeep-1), "\n"), "\n ")+"b", 7+len(elifs(api.MaxDeep-2))+59+6)
	passes(t, "if a:\n "+strings.Join(strings.Split(elifs(api.MaxDeep-2), "\n"), "\n ")+"b")
}

// nested is heads within one another, each on a line, and what stands in the last one.
func nested(heads []string, last string) string {
	text := ""
	for i, head := range heads {
		text += strings.Repeat(" ", i) + strings.ReplaceAll(head, "\n", "\n"+strings.Repeat(" ", i)) + "\n"
	}
	return text + strings.Repeat(" ", len(heads)) + last
}

// P6.1: blocks within blocks, at the `:`; each kind of `:` counts.
func TestDeepBlocks(t *testing.T) {
	heads := make([]string, api.MaxDeep)
	for i := range heads {
		heads[i] = []string{"if a:", "for a in b:", "if a: b\nelse:"}[i%3]
	}
	text := nested(heads, "")
	passes(t, text+"a")
	for _, x := range []struct {
		last string
		at   int
	}{{"if a: b", 4}, {"for a in b: c", 10}, {"-a", 0}, {"a = ()", 4}, {"for (a) in b: c", 4}, {"if (a): b", 3}, {"if a:", 4}, {"for a in b:\n c", 10}} {
		limits(t, text+x.last, len(text)+x.at)
	}
	faults(t, text+"def f(): a", len(text))
	faults(t, text+"if a b: c", len(text)+5)
	faults(t, text+"break a", len(text)+6)
	text = nested(heads[1:], "")
	passes(t, text+"if a: b\n"+strings.Repeat(" ", len(heads)-1)+"else: c")
	limits(t, text+"if a: -b", len(text)+6)
	limits(t, text+"if a: b\n"+strings.Repeat(" ", len(heads)-1)+"elif c: d", len(text)+8+len(heads)-1+6)
	limits(t, text+"if a: b\n"+strings.Repeat(" ", len(heads)-1)+"elif -c: d", len(text)+8+len(heads)-1+5)
	heads[0] = "def f(a = " + strings.Repeat("-", api.MaxDeep) + "1):"
	text = nested(heads, "")
	passes(t, text+"return a")
	limits(t, text+"return -a", len(text)+7)
}

// wrap is text around an expression, with the places in its head of those that count and stand around it; its rank is
// how tight it binds, and inner that of what may stand in it.
type wrap struct {
	head, tail  string
	counts      []int
	rank, inner int
}

var wraps = []wrap{
	{"(", ")", []int{0}, 9, 1}, {"(1, ", ")", []int{0}, 9, 1}, {"[", "]", []int{0}, 9, 1}, {"[1, ", ", 2]", []int{0}, 9, 1},
	{"{", ": 1}", []int{0}, 9, 1}, {"{1: ", "}", []int{0}, 9, 1}, {"{1: 2, ", ": 4}", []int{0}, 9, 1},
	{"f(", ")", []int{1}, 9, 1}, {"f(1, k = ", ", l = 2)", []int{1}, 9, 1}, {"'a'.b(", ")", []int{5}, 9, 1},
	{"a[", "]", []int{1}, 9, 1}, {"a[", ":]", []int{1}, 9, 1}, {"a[1:", "]", []int{1}, 9, 1},
	{"[", " for i in s]", []int{0}, 9, 1}, {"[i for i in ", "]", []int{0}, 9, 2}, {"[i for i in s if ", "]", []int{0}, 9, 2},
	{"[i for a[", "] in s]", []int{0, 8}, 9, 1}, {"[i for (b, a.c(", ")[0]) in s]", []int{0, 7, 14}, 9, 1},
	{"not ", "", []int{0}, 4, 4}, {"-", "", []int{0}, 8, 8}, {"1 if ", " else 1", []int{2}, 1, 2}, {"1 if 1 else ", "", []int{2}, 1, 1},
	{"1 + ", "", nil, 6, 7}, {"", " * 1", nil, 7, 7}, {"1 not in ", "", nil, 5, 6}, {"1 or ", "", nil, 2, 3}, {"", ".b", nil, 9, 9}, {"", " or 2", nil, 2, 2},
}

// leaves is expressions with one that counts at the place.
var leaves = []wrap{
	{"()", "", []int{0}, 9, 0}, {"[]", "", []int{0}, 9, 0}, {"{}", "", []int{0}, 9, 0}, {"f()", "", []int{1}, 9, 0}, {"a.b[0]", "", []int{3}, 9, 0}, {"a[:]", "", []int{1}, 9, 0},
	{"[i for i in s]", "", []int{0}, 9, 0}, {"-a", "", []int{0}, 8, 0}, {"not a", "", []int{0}, 4, 0}, {"a if b else c", "", []int{2}, 1, 0}, {"a * b in -c", "", []int{9}, 5, 0},
}

// statementWraps is heads of blocks, with how many of those that count stand around what is in them.
var statementWraps = []struct {
	head   string
	counts int
}{{"if a:", 1}, {"for a, (b, c[0]) in d:", 1}, {"if a: b\nelse:", 1}, {"if a: b\nelif c:", 2}, {"if a: b\nelif c: d\nelse:", 2}, {"if a: b\nelif c: d\nelif e: f\nelse:", 3}}

var lines = []struct {
	head, tail string
	counts     int
}{{"", "", 0}, {"a = ", "", 0}, {"a, b = 1, ", ",", 0}, {"a += ", "", 0}, {"if ", ": a", 0}, {"for a in ", ": b", 0}, {"for (a.b[", "], c) in d: e", 2}, {"if a: b\nelif ", ": c", 1}, {"if a: ", "", 1}}

// within is the rank and all of a chain of wraps in which so many count.
func within(random *rand.Rand, counts int) (head, tail string, inner int) {
	inner = 1
	for counts > 0 || random.Intn(4) == 0 {
		w := wraps[random.Intn(len(wraps))]
		if w.rank < inner || len(w.counts) > counts {
			continue
		}
		counts -= len(w.counts)
		head, tail, inner = head+w.head, w.tail+tail, w.inner
	}
	return head, tail, inner
}

// P6.1: several kinds within one another: MaxDeep of them may be, one more is told at its token.
func TestDeepOfSeveralKinds(t *testing.T) {
	random := rand.New(rand.NewSource(9))
	rounds := 4000
	if testing.Short() {
		rounds = 500
	}
	tried := 0
	for range rounds {
		var heads []string
		counts := 0
		for n := random.Intn(40); counts < n; {
			s := statementWraps[random.Intn(len(statementWraps))]
			heads = append(heads, s.head)
			counts += s.counts
		}
		line := lines[random.Intn(len(lines))]
		head, tail, inner := within(random, api.MaxDeep-counts-line.counts)
		leaf := leaves[random.Intn(len(leaves))]
		if leaf.rank < inner {
			continue
		}
		start := nested(heads, strings.ReplaceAll(line.head, "\n", "\n"+strings.Repeat(" ", len(heads)))+head)
		end := tail + line.tail
		if _, err := lex.Scan(start + leaf.head + end); err != nil {
			continue // too many brackets
		}
		tried++
		passes(t, start+"a"+end)
		limits(t, start+leaf.head+end, len(start)+leaf.counts[0])
		if t.Failed() {
			t.Fatal(start + leaf.head + end)
		}
	}
	if tried < rounds/3 {
		t.Error("too few are tried:", tried)
	}
}

// P6.1: what has ended counts no more.
func TestDeepAfterDeep(t *testing.T) {
	row := strings.Repeat("-1, not 1, (1), [1], {1: 1}, f(1), a[1], a[:], a[1:1], 1 if 1 else 1, [i for (i, j) in s if 1], f(k = 1), ", 100)
	passes(t, row)
	passes(t, "a = ["+row+"]")
	passes(t, strings.Repeat("if a: b\nelif a: b\nelse: b\nfor (a) in b: c\ndef f(a = (1)): pass\nload('m', 'a')\nif a:\n b\n", 100))
	deep := strings.Repeat("-", api.MaxDeep)
	for _, text := range []string{"(1)", "[1]", "{1: 1}", "f(1)", "a[1]", "a[1:]", "[i for (i) in s if 1]", "1 if 1 else 1", "-1", "f(k = 1)"} {
		passes(t, text+"\n"+deep+"1")
		limits(t, text+"\n"+deep+"-1", len(text)+1+api.MaxDeep)
		passes(t, text+", "+deep+"1")
		limits(t, text+", "+deep+"-1", len(text)+2+api.MaxDeep)
	}
	for _, text := range []string{"if a: b", "if a: b\nelif c: d", "if a: b\nelif c: d\nelse: e", "for (a) in b: c", "def f(a = (1)): b", "load('m', 'a')", "if a:\n  b", "not a", "() + ()"} {
		passes(t, text+"\n"+deep+"1")
		limits(t, text+"\n"+deep+"-1", len(text)+1+api.MaxDeep)
	}
}
