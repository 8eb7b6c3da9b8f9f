package parse_test

import (
	"errors"
	"math/rand"
	"slices"
	"strings"
	"testing"

	"smithy/api"
	"smithy/ast"
	"smithy/lex"
	"smithy/parse"
)

// The plain way holds tokens against the chapter's grammar, written out as rules without any order among them. It keeps
// all ways in which the tokens may go on (a chart: Earley's way), so that the first token with which no way goes on is
// found by itself. What is told elsewhere than at that token is found from the ways that were open there.

// plainExpressions: what is left of `:`, and behind it what it may be. NAME, INT, TEXT (a string), WORD (a string that says
// a name) and the like are tokens.
const plainExpressions = `
tuple : tests | tests ,
tests : test | tests , test
test : disjunction | disjunction if disjunction else test
disjunction : conjunction | disjunction or conjunction
conjunction : negation | conjunction and negation
negation : not negation | comparison
comparison : sum | sum == sum | sum != sum | sum < sum | sum <= sum | sum > sum | sum >= sum | sum in sum | sum not in sum
sum : product | sum + product | sum - product
product : unary | product * unary | product // unary | product % unary
unary : - unary | primary
primary : atom | primary behind
behind : . NAME | ( ) | ( arguments ) | ( arguments , ) | [ test ] | [ : ] | [ test : ] | [ : test ] | [ test : test ]
arguments : placed | placed , named | named
placed : test | placed , test
named : argument | named , argument
argument : NAME = test
atom : NAME | INT | texts | None | True | False | ( ) | ( tuple ) | [ ] | [ tuple ] | { } | { entries } | { entries , }
atom : [ test for targets in disjunction ] | [ test for targets in disjunction if disjunction ]
texts : text | texts text
text : TEXT | WORD
entries : entry | entries , entry
entry : test : test
targets : targetrow | targetrow ,
targetrow : target | targetrow , target
target : cell | ( targets )
cell : NAME | named-primary [ test ]
named-primary : NAME | named-primary behind
lefts : leftrow | leftrow ,
leftrow : left | leftrow , left
left : NAME | primary [ test ] | ( lefts )
addable : NAME | primary [ test ] | ( addable )
params : unset | unset , set | set
unset : NAME | unset , NAME
set : param | set , param
param : NAME = test
loads : loaded | loads , loaded
loaded : WORD | NAME = text
`

// plainStatements are those within something (HERE); an if in it has IF, a for has FOR.
const plainStatements = `
statementsHERE : statementHERE | statementsHERE statementHERE
statementHERE : simpleHERE NEWLINE | ifHERE | for targets in tuple : blockFOR
ifHERE : if test : blockIF | if test : blockIF behindHERE
behindHERE : elif test : blockIF | elif test : blockIF behindHERE | else : blockIF
blockHERE : NEWLINE INDENT statementsHERE DEDENT | simpleHERE NEWLINE
simpleHERE : pass | tuple | lefts = tuple | addable += tuple
`

// plainRules is the grammar whose whole is a file, and an expression that stands alone.
var plainRules = newGrammar(plainGrammar())

func plainGrammar() string {
	rules := plainExpressions + "file : END | statements-whole END\nalone : tuple END | tuple NEWLINE END\n"
	for _, x := range [][3]string{
		{"-whole", "-in", "-loop"}, {"-in", "-in", "-loop"}, {"-loop", "-loop", "-loop"}, {"-def", "-def", "-defloop"}, {"-defloop", "-defloop", "-defloop"},
	} {
		rules += strings.NewReplacer("HERE", x[0], "IF", x[1], "FOR", x[2]).Replace(plainStatements)
		if strings.HasSuffix(x[0], "loop") {
			rules += "simple" + x[0] + " : break | continue\n"
		}
		if strings.HasPrefix(x[0], "-def") {
			rules += "simple" + x[0] + " : return | return tuple\n"
		}
	}
	return rules + "simple-whole : load ( text , loads ) | load ( text , loads , )\n" +
		"statement-whole : def NAME ( ) : block-def | def NAME ( params ) : block-def | def NAME ( params , ) : block-def\n"
}

// grammar has a number for each thing that can stand in a rule.
type grammar struct {
	numbers map[string]int
	rules   []grammarRule
	of      [][]int // the rules for a thing; none for a token
}

type grammarRule struct {
	left  int
	right []int
}

func newGrammar(text string) *grammar {
	g := &grammar{numbers: map[string]int{}, of: [][]int{nil}}
	for _, line := range strings.Split(strings.TrimSpace(text), "\n") {
		left, right, _ := strings.Cut(line, " : ")
		for _, one := range strings.Split(right, " | ") {
			rule := grammarRule{left: g.number(left)}
			for _, x := range strings.Fields(one) {
				rule.right = append(rule.right, g.number(x))
			}
			g.of[rule.left] = append(g.of[rule.left], len(g.rules))
			g.rules = append(g.rules, rule)
		}
	}
	return g
}

func (g *grammar) number(x string) int {
	if _, there := g.numbers[x]; !there {
		g.numbers[x] = len(g.numbers) + 1
		g.of = append(g.of, nil)
	}
	return g.numbers[x]
}

// way is a rule that is done up to dot, begun at a place.
type way struct{ rule, dot, from int }

// column is the ways that are open at a place.
type column struct {
	ways []way
	has  map[way]bool
}

func (c *column) add(w way) {
	if !c.has[w] {
		c.has[w] = true
		c.ways = append(c.ways, w)
	}
}

// awaits is what stands next in a way; 0, if it is done.
func (g *grammar) awaits(w way) int {
	if right := g.rules[w.rule].right; w.dot < len(right) {
		return right[w.dot]
	}
	return 0
}

// spread adds to the last of the columns what its ways begin with, and what goes on by what they end.
func (g *grammar) spread(columns []*column) {
	here := len(columns) - 1
	c := columns[here]
	begun := make([]bool, len(g.numbers)+1)
	for i := 0; i < len(c.ways); i++ {
		w := c.ways[i]
		next := g.awaits(w)
		if next == 0 {
			for _, v := range columns[w.from].ways {
				if g.awaits(v) == g.rules[w.rule].left {
					c.add(way{v.rule, v.dot + 1, v.from})
				}
			}
		} else if !begun[next] {
			begun[next] = true
			for _, rule := range g.of[next] {
				c.ways = append(c.ways, way{rule, 0, here}) // it is not there, as each thing is begun once
			}
		}
	}
}

// chart is the columns ahead of each token, up to that with which no way goes on, or of all and one behind.
func (g *grammar) chart(whole string, tokens []api.Token) []*column {
	first := &column{has: map[way]bool{}}
	for _, rule := range g.of[g.numbers[whole]] {
		first.ways = append(first.ways, way{rule, 0, 0})
	}
	columns := []*column{first}
	g.spread(columns)
	for _, token := range tokens {
		next := &column{has: map[way]bool{}}
		number := g.numbers[plainToken(token)]
		for _, w := range columns[len(columns)-1].ways {
			if number != 0 && g.awaits(w) == number {
				next.add(way{w.rule, w.dot + 1, w.from})
			}
		}
		if len(next.ways) == 0 {
			break
		}
		columns = append(columns, next)
		g.spread(columns)
	}
	return columns
}

// plainToken is what a token is called in the rules.
func plainToken(token api.Token) string {
	switch token.Kind {
	case api.TName:
		return "NAME"
	case api.TInt:
		return "INT"
	case api.TNewline:
		return "NEWLINE"
	case api.TIndent:
		return "INDENT"
	case api.TDedent:
		return "DEDENT"
	case api.TEnd:
		return "END"
	case api.TStr:
		if lex.Name(token.Text) {
			return "WORD"
		}
		return "TEXT"
	}
	return token.Text
}

// plainFault is the number of the first token with which no file goes on, and that of the token at which this is told.
// Of a text without a fault both are the number of all tokens.
func plainFault(whole string, tokens []api.Token) (seen, told int) {
	g := plainRules
	columns := g.chart(whole, tokens)
	seen = len(columns) - 1
	told = seen
	if seen < len(tokens) {
		told = plainTold(columns[seen], seen)
	}
	// Names that are there twice are nothing that rules know.
	if twice := plainTwice(tokens); twice < seen {
		return twice, twice
	}
	return seen, told
}

// plainTold is where it is told that no way goes on with the token seen.
func plainTold(c *column, seen int) int {
	g := plainRules
	target, none := -1, -1
	turn := true // is there none but a `=` behind a name of an argument or param?
	for _, w := range c.ways {
		left, next := g.rules[w.rule].left, g.awaits(w)
		switch {
		case next == 0 && left == g.numbers["cell"]:
			target = w.from
		case next == 0 && left == g.numbers["named-primary"]:
			none = w.from
		}
		isToken := next != 0 && len(g.of[next]) == 0
		isNamed := w.dot == 1 && (left == g.numbers["argument"] || left == g.numbers["param"])
		if isToken && !isNamed {
			turn = false
		}
	}
	if none >= 0 && target != none {
		return none
	}
	if turn {
		return seen - 1
	}
	return seen
}

// plainTwice is the first token that is a name of an argument or a param that is there already; else the number of all.
func plainTwice(tokens []api.Token) int {
	type bracket struct {
		def   bool
		names []string
	}
	var open []*bracket
	for i, token := range tokens {
		at := func(k int) string {
			if i+k < 0 || i+k >= len(tokens) || tokens[i+k].Kind == api.TStr {
				return ""
			}
			return tokens[i+k].Text
		}
		if token.Kind == api.TSign && token.Text != "" && strings.Contains("([{", token.Text) {
			open = append(open, &bracket{def: at(-2) == "def"})
			if at(-1) == "load" {
				open[len(open)-1] = nil
			}
		}
		if token.Kind == api.TSign && token.Text != "" && strings.Contains(")]}", token.Text) && len(open) > 0 {
			open = open[:len(open)-1]
		}
		if token.Kind != api.TName || len(open) == 0 || open[len(open)-1] == nil || at(-1) != "(" && at(-1) != "," {
			continue
		}
		b := open[len(open)-1]
		if !b.def && at(1) != "=" {
			continue
		}
		if slices.Contains(b.names, token.Text) {
			return i
		}
		b.names = append(b.names, token.Text)
	}
	return len(tokens)
}

// asPlain holds a text that lex.Scan takes against the plain way, as a file or as an expression. It tells how many tokens
// go on, and whether that is all.
func asPlain(t *testing.T, whole, text string) (int, bool) {
	t.Helper()
	tokens, err := lex.Scan(text)
	if err != nil {
		return 0, false
	}
	call := parse.Parse
	if whole == "alone" {
		call = parse.Expr
	}
	seen, told := plainFault(whole, tokens)
	l, err := call(text)
	if seen == len(tokens) {
		if err != nil || !inOrder(l) {
			t.Fatalf("%q: %v, %v", text, l, err)
		}
		if err := ast.Valid(l); err != nil && whole == "file" {
			t.Fatalf("%q: not valid: %v", text, err)
		}
		return seen, true
	}
	var at *api.At
	if l != nil || !errors.As(err, &at) || at.Err != api.ErrParse || at.Pos != tokens[told].Pos {
		t.Fatalf("%q: %v, %v; want ErrParse at %d", text, l, err, tokens[told].Pos)
	}
	return seen, false
}

// closing is the brackets that close those which are open behind the tokens' texts.
func closing(pieces []string) string {
	open := ""
	for _, p := range pieces {
		switch p {
		case "(":
			open = ")" + open
		case "[":
			open = "]" + open
		case "{":
			open = "}" + open
		case ")", "]", "}":
			if open == "" || open[:1] != p {
				return ""
			}
			open = open[1:]
		}
	}
	return open
}

// eachRow tries all rows of pieces behind the first ones, with at most so many more, each row as far as it goes on.
func eachRow(t *testing.T, whole string, first, pieces []string, most int) {
	row := slices.Clone(first)
	var next func(more int)
	next = func(more int) {
		text := strings.Join(row, " ") + " " + closing(row)
		seen, _ := asPlain(t, whole, text)
		if more == 0 || seen < len(row) && len(row) > len(first) {
			return
		}
		for _, p := range pieces {
			row = append(row, p)
			next(more - 1)
			row = row[:len(row)-1]
		}
	}
	next(most)
}

// P6.1, P6.2: all short rows of tokens, in several places: where the fault stands; where there is none, the tree is valid.
func TestAllShortRows(t *testing.T) {
	for _, x := range []struct {
		whole, first, pieces string
		most                 int
	}{
		{"file", "", "a 1 's' ( ) [ ] { } , : . = += - not in if else for pass", 4},
		{"alone", "", "a 1 's' ( ) [ ] { } , : . = - not in if else for and", 4},
		{"file", "", "a ( ) [ ] , =", 6},
		{"file", "", "a b 1 ( ) [ ] , = += .", 5},
		{"alone", "", "a - not in < + and or if else", 5},
		{"file", "f (", "a b 1 = , ) ( .", 6},
		{"file", "f ( a = 1 ,", "a b 1 = == - not in , ) (", 5},
		{"file", "def f (", "a b 1 = , ) : . pass", 6},
		{"file", "def f ( a = 1", "a b 1 = , ) : ( return", 6},
		{"file", "def f ( a ) :", "return a , = + pass break load def if not", 5},
		{"file", "load (", "'m' 's' 'a-b' a 1 = , ) (", 7},
		{"file", "load ( 'm' ,", "'s' 'a-b' a = , ) if", 7},
		{"file", "for", "a 1 ( ) [ ] , . in : +", 5},
		{"file", "for a (", "a ) = , in : . [ 0 ]", 6},
		{"file", "for a [ 0 ]", "a ( ) [ ] , . in : = 1", 5},
		{"alone", "[ a for", "a 1 ( ) [ ] , . in if -", 5},
		{"alone", "[ a for a in", "a ( ) [ ] , if else for not in", 5},
		{"alone", "x [", "a : , ] [ - if else for", 6},
		{"alone", "{", "a : , } { 1 not in", 6},
		{"alone", "[", "a , ] [ for in ( ) if", 6},
		{"file", "if a : pass", "a : pass else", 3},
		{"file", "for a in b :", "a , = pass break continue return load def if : in", 4},
	} {
		most := x.most
		if testing.Short() {
			most -= 2
		}
		eachRow(t, x.whole, strings.Fields(x.first), strings.Fields(x.pieces), most)
	}
}

// P6.1, P6.2: all short files of lines, further in and out: which statement may stand where, and which belongs to which.
func TestAllShortFiles(t *testing.T) {
	lines := strings.Split("a|if a:|if a: break|elif b:|else:|else: return|for a in b:|for a in b: continue|def f():|def f(a): return a|break|return b|load('m', 'a')", "|")
	most := 3
	if testing.Short() {
		most = 2
	}
	var next func(text string, more int)
	next = func(text string, more int) {
		tokens, err := lex.Scan(text)
		if err != nil {
			return
		}
		seen, _ := asPlain(t, "file", text)
		if more == 0 || seen < len(tokens)-1 && tokens[seen].Pos < len(text)-1 {
			return
		}
		for _, line := range lines {
			for in := range 3 {
				next(text+strings.Repeat(" ", in)+line+"\n", more-1)
			}
		}
	}
	next("", most)
	for _, head := range []string{"def f():\n", "for a in b:\n", "if a:\n", "def f():\n for a in b:\n"} {
		for _, line := range lines {
			for in := range 3 {
				next(head+strings.Repeat(" ", in)+line+"\n", most-2)
			}
		}
	}
}

// P6.1, P6.2: files that are right, and such with a token or several taken away, turned, or laid in.
func TestRandomFaults(t *testing.T) {
	random := rand.New(rand.NewSource(6))
	pieces := strings.Fields("a b 1 's' 'a-b' ( ) [ ] { } , : . = += - + not in if else for and or < == * None pass break return load def elif")
	rounds := 2500
	if testing.Short() {
		rounds = 200
	}
	right, wrong := 0, 0
	for range rounds {
		text, _ := written(random, 1)
		for len(text) > 250 {
			text, _ = written(random, 1)
		}
		if _, is := asPlain(t, "file", text); !is {
			t.Fatalf("%q is written with a fault", text)
		}
		for range 8 {
			bent := text
			for range 1 + random.Intn(2) {
				bent = bend(random, bent, pieces)
			}
			if _, err := lex.Scan(bent); err != nil {
				continue
			}
			if _, is := asPlain(t, "file", bent); is {
				right++
			} else {
				wrong++
			}
		}
	}
	if right < rounds/4 || wrong < rounds {
		t.Error("too few of one sort:", right, wrong)
	}
}

// bend is the text with a token taken away, in another one's place, or laid in.
func bend(random *rand.Rand, text string, pieces []string) string {
	tokens, err := lex.Scan(text)
	if err != nil {
		return text
	}
	tokens = slices.DeleteFunc(tokens, func(x api.Token) bool { return x.Kind > api.TSign })
	if len(tokens) == 0 {
		return text
	}
	i := random.Intn(len(tokens))
	from, to := tokens[i].Pos, len(text)
	if i+1 < len(tokens) {
		to = tokens[i+1].Pos
	}
	if at := strings.IndexByte(text[from:to], '\n'); at >= 0 {
		to = from + at
	}
	piece := " " + pieces[random.Intn(len(pieces))] + " "
	switch random.Intn(3) {
	case 0:
		return text[:from] + text[to:]
	case 1:
		return text[:from] + strings.TrimLeft(piece, " ") + text[to:]
	}
	return text[:to] + piece + text[to:]
}
