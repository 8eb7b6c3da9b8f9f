package parse_test

import (
	"math/rand"
	"reflect"
	"slices"
	"strings"
	"testing"

	"smithy/api"
	"smithy/ast"
	"smithy/parse"
)

// writer writes a random text that has no fault, and lays down the nodes that it has to have.
type writer struct {
	random   *rand.Rand
	text     []byte
	nodes    []api.Node
	brackets int    // how many are open
	indent   string // of the block
	fresh    bool   // may a token stand here, with no space ahead?
}

// written is a text of some statements, and its nodes.
func written(random *rand.Rand, statements int) (string, []api.Node) {
	w := &writer{random: random, fresh: true}
	w.newline()
	var kids []int
	for range 1 + random.Intn(statements+1) {
		kids = append(kids, w.statement(2, true, false, false))
	}
	w.add(api.NBlock, w.nodes[kids[0]].Pos, "", kids...)
	if random.Intn(4) == 0 {
		return strings.TrimRight(string(w.text), " \n"), w.nodes // a comment that is cut off ahead of its newline stays one
	}
	return string(w.text), w.nodes
}

func (w *writer) chance(n int) bool {
	return w.random.Intn(n) == 0
}

func (w *writer) pick(text string) string {
	l := strings.Split(text, " ")
	return l[w.random.Intn(len(l))]
}

func (w *writer) name() string {
	return w.pick("a b c d e f g h x1 _y longer")
}

func (w *writer) add(op, pos int, s string, kids ...int) int {
	w.nodes = append(w.nodes, api.Node{Op: op, Pos: pos, S: s, Kids: slices.Clone(kids)})
	return len(w.nodes) - 1
}

func isWordByte(b byte) bool {
	return b == '_' || '0' <= b && b <= '9' || 'a' <= b && b <= 'z' || 'A' <= b && b <= 'Z'
}

// put writes a token, and tells where it is.
func (w *writer) put(token string) int {
	if !w.fresh {
		last := w.text[len(w.text)-1]
		if isWordByte(last) && isWordByte(token[0]) || strings.IndexByte("=<>!+/", last) >= 0 && strings.IndexByte("=/", token[0]) >= 0 || w.chance(2) {
			w.space()
		}
	}
	w.fresh = false
	switch token {
	case "(", "[", "{":
		w.brackets++
	case ")", "]", "}":
		w.brackets--
	}
	w.text = append(w.text, token...)
	return len(w.text) - len(token)
}

func (w *writer) space() {
	w.text = append(w.text, ' ')
	if w.brackets > 0 && w.chance(10) {
		w.text = append(w.text, w.pick("\n #c\n \n\n\n")...)
		w.text = append(w.text, strings.Repeat(" ", w.random.Intn(3))...)
		if w.chance(3) {
			w.text = append(w.text, "# (c\n"...)
		}
	}
}

// here is where the next token is.
func (w *writer) here() int {
	if !w.fresh {
		w.space()
		w.fresh = true
	}
	return len(w.text)
}

// newline ends a line, and begins the next one.
func (w *writer) newline() {
	if len(w.text) > 0 {
		if w.chance(6) {
			w.text = append(w.text, " # 'c"...)
		}
		w.text = append(w.text, '\n')
	}
	if w.chance(5) {
		w.text = append(w.text, "  \n   # c\n\n"...)
	}
}

// line begins a line of the block.
func (w *writer) line() {
	w.text = append(w.text, w.indent...)
	w.fresh = true
}

// row writes so many parts with commas between, perhaps one behind; it tells, too, whether there is a comma.
func (w *writer) row(n int, part func()) bool {
	for i := range n {
		if i > 0 {
			w.put(",")
		}
		part()
	}
	if n > 0 && w.chance(4) {
		w.put(",")
		return true
	}
	return n > 1
}

// tuple writes what may be a Tuple without brackets.
func (w *writer) tuple(deep int) int {
	pos := w.here()
	var kids []int
	if w.row(1+w.random.Intn(4)/2, func() { kids = append(kids, w.expr(1, deep)) }) {
		return w.add(api.NTuple, pos, "", kids...)
	}
	return kids[0]
}

// kindRanks is how tight each kind of expression binds, by the kind's number in w.kind.
var kindRanks = []int{0, 1, 2, 3, 4, 5, 6, 7, 8, 9, 9, 9, 9, 10, 10, 10, 10}

// expr writes an expression that binds at least as tight as rank, in brackets where it has to be.
func (w *writer) expr(rank, deep int) int {
	if deep <= 0 || w.chance(4) {
		return w.atom()
	}
	kind := w.random.Intn(len(kindRanks))
	if kind == 0 {
		return w.bracketTuple(deep - 1)
	}
	if kindRanks[kind] >= rank && !w.chance(8) {
		return w.kind(kind, deep-1)
	}
	w.put("(")
	node := w.kind(kind, deep-1)
	w.put(")")
	return node
}

func (w *writer) bracketTuple(deep int) int {
	pos := w.put("(")
	var kids []int
	tuple := true
	if n := w.random.Intn(4); n > 0 {
		tuple = w.row(n, func() { kids = append(kids, w.expr(1, deep)) })
	}
	w.put(")")
	if tuple {
		return w.add(api.NTuple, pos, "", kids...)
	}
	return kids[0]
}

func (w *writer) kind(kind, deep int) int {
	switch kind {
	case 1:
		then := w.expr(2, deep)
		pos := w.put("if")
		condition := w.expr(2, deep)
		w.put("else")
		return w.add(api.NIf, pos, "", condition, then, w.expr(1, deep))
	case 2:
		return w.binary(2, 3, deep, "or", api.NOr)
	case 3:
		return w.binary(3, 4, deep, "and", api.NAnd)
	case 4:
		pos := w.put("not")
		return w.add(api.NNot, pos, "", w.expr(4, deep))
	case 5:
		op := w.random.Intn(8)
		return w.binary(6, 6, deep, []string{"==", "!=", "<", "<=", ">", ">=", "in", "not in"}[op], api.NEq+op)
	case 6:
		op := w.random.Intn(2)
		return w.binary(6, 7, deep, []string{"+", "-"}[op], api.NAdd+op)
	case 7:
		op := w.random.Intn(3)
		return w.binary(7, 8, deep, []string{"*", "//", "%"}[op], api.NMul+op)
	case 8:
		pos := w.put("-")
		return w.add(api.NNeg, pos, "", w.expr(8, deep))
	case 9, 10, 11, 12:
		return w.behind(w.expr(9, deep), kind, deep)
	case 13:
		pos := w.put("[")
		var kids []int
		w.row(w.random.Intn(3), func() { kids = append(kids, w.expr(1, deep)) })
		w.put("]")
		return w.add(api.NList, pos, "", kids...)
	case 14:
		return w.dict(deep)
	case 15:
		return w.comp(deep)
	}
	return w.atom()
}

func (w *writer) binary(left, right, deep int, sign string, op int) int {
	first := w.expr(left, deep)
	pos := -1
	for i, word := range strings.Split(sign, " ") {
		if at := w.put(word); i == 0 {
			pos = at
		}
	}
	return w.add(op, pos, "", first, w.expr(right, deep))
}

// behind writes what stands behind a primary: a Dot, a Call, an Index, a Slice.
func (w *writer) behind(what, kind, deep int) int {
	switch kind {
	case 9:
		pos, name := w.put("."), w.name()
		w.put(name)
		return w.add(api.NDot, pos, name, what)
	case 10:
		pos := w.put("(")
		kids := []int{what}
		by := w.random.Intn(3)
		names := w.random.Perm(5)
		w.row(w.random.Intn(4), func() {
			if by--; by >= 0 {
				kids = append(kids, w.expr(1, deep))
				return
			}
			name := "abcde"[names[0]:][:1]
			names = names[1:]
			at := w.put(name)
			w.put("=")
			kids = append(kids, w.add(api.NArg, at, name, w.expr(1, deep)))
		})
		w.put(")")
		return w.add(api.NCall, pos, "", kids...)
	case 11:
		pos := w.put("[")
		index := w.expr(1, deep)
		w.put("]")
		return w.add(api.NIndex, pos, "", what, index)
	}
	pos := w.put("[")
	from := w.bound(":", deep)
	to := w.bound("]", deep)
	return w.add(api.NSlice, pos, "", what, from, to)
}

// bound writes a bound, or leaves it out, and the sign behind it.
func (w *writer) bound(sign string, deep int) int {
	if w.chance(3) {
		return w.add(api.NNothing, w.put(sign), "")
	}
	node := w.expr(1, deep)
	w.put(sign)
	return node
}

func (w *writer) dict(deep int) int {
	pos := w.put("{")
	var kids []int
	w.row(w.random.Intn(3), func() {
		kids = append(kids, w.expr(1, deep))
		w.put(":")
		kids = append(kids, w.expr(1, deep))
	})
	w.put("}")
	return w.add(api.NDict, pos, "", kids...)
}

func (w *writer) comp(deep int) int {
	pos := w.put("[")
	kids := []int{w.expr(1, deep)}
	w.put("for")
	kids = append(kids, w.targets(w.here(), deep))
	w.put("in")
	kids = append(kids, w.expr(2, deep))
	if w.chance(2) {
		w.put("if")
		kids = append(kids, w.expr(2, deep))
	}
	w.put("]")
	return w.add(api.NComp, pos, "", kids...)
}

// targets writes one target or several, which are a Tuple at pos.
func (w *writer) targets(pos, deep int) int {
	var kids []int
	if w.row(1+w.random.Intn(4)/2, func() { kids = append(kids, w.target(deep)) }) {
		return w.add(api.NTuple, pos, "", kids...)
	}
	return kids[0]
}

func (w *writer) target(deep int) int {
	if deep > 0 && w.chance(4) {
		pos := w.put("(")
		node := w.targets(pos, deep-1)
		w.put(")")
		return node
	}
	name := w.name()
	node := w.add(api.NName, w.put(name), name)
	if deep > 0 && w.chance(4) {
		for range w.random.Intn(3) {
			node = w.behind(node, 9+w.random.Intn(4), deep-1)
		}
		node = w.behind(node, 11, deep-1)
	}
	return node
}

func (w *writer) atom() int {
	switch w.random.Intn(8) {
	case 0:
		return w.add(api.NNone, w.put("None"), "")
	case 1:
		return w.add(api.NTrue, w.put("True"), "")
	case 2:
		return w.add(api.NFalse, w.put("False"), "")
	case 3:
		n := w.pick("0 7 10 123456789012345678901234567890")
		return w.add(api.NInt, w.put(n), n)
	case 4:
		return w.str()
	}
	name := w.name()
	return w.add(api.NName, w.put(name), name)
}

// str writes strings, one behind the other.
func (w *writer) str() int {
	pos, says := -1, ""
	for range 1 + w.random.Intn(4)/2 {
		said := w.pick("a if + ( \u00e4\xff ")
		at := w.put(w.pick("' \""))
		quote := string(w.text[at:])
		w.text = append(w.text, said+`\n\x21`+quote...)
		says += said + "\n!"
		if pos < 0 {
			pos = at
		}
	}
	return w.add(api.NStr, pos, says)
}

// statement writes a statement, as one of the whole Block, in a Def, in a For.
func (w *writer) statement(deep int, whole, def, loop bool) int {
	w.line()
	kind := w.random.Intn(8)
	switch {
	case kind == 0 && deep > 0:
		return w.cond("if", deep-1, def, loop)
	case kind == 1 && deep > 0:
		pos := w.put("for")
		target := w.targets(w.here(), 2)
		w.put("in")
		over := w.tuple(2)
		return w.add(api.NFor, pos, "", target, over, w.block(deep-1, def, true))
	case kind == 2 && whole:
		return w.def(deep - 1)
	case kind == 3 && whole:
		node := w.load()
		w.newline()
		return node
	}
	node := w.simple(def, loop)
	w.newline()
	return node
}

func (w *writer) simple(def, loop bool) int {
	kind := w.random.Intn(8)
	switch {
	case kind == 0:
		return w.add(api.NPass, w.put("pass"), "")
	case kind == 1 && loop:
		return w.add(api.NBreak, w.put("break"), "")
	case kind == 2 && loop:
		return w.add(api.NContinue, w.put("continue"), "")
	case kind <= 3 && def:
		pos := w.put("return")
		if w.chance(3) {
			return w.add(api.NReturn, pos, "")
		}
		return w.add(api.NReturn, pos, "", w.tuple(3))
	case kind <= 5:
		left := w.targets(w.here(), 2)
		pos := w.put("=")
		return w.add(api.NAssign, pos, "", left, w.tuple(3))
	case kind == 6:
		left := w.behind(w.expr(9, 2), 11, 2)
		pos := w.put("+=")
		return w.add(api.NAddTo, pos, "", left, w.tuple(3))
	}
	node := w.tuple(4)
	return w.add(api.NExpr, w.nodes[node].Pos, "", node)
}

// block writes a `:`, and a block on the line or on lines of its own.
func (w *writer) block(deep int, def, loop bool) int {
	w.put(":")
	var kids []int
	if w.chance(2) {
		kids = append(kids, w.simple(def, loop))
		w.newline()
	} else {
		outer := w.indent
		w.indent += strings.Repeat(" ", 1+w.random.Intn(3))
		w.newline()
		for range 1 + w.random.Intn(2) {
			kids = append(kids, w.statement(deep, false, def, loop))
		}
		w.indent = outer
	}
	return w.add(api.NBlock, w.nodes[kids[0]].Pos, "", kids...)
}

// cond writes an if or an elif, and all behind it.
func (w *writer) cond(word string, deep int, def, loop bool) int {
	pos := w.put(word)
	kids := []int{w.expr(1, 2)}
	kids = append(kids, w.block(deep, def, loop))
	switch w.random.Intn(4) {
	case 0:
		w.line()
		node := w.cond("elif", deep, def, loop)
		kids = append(kids, w.add(api.NBlock, w.nodes[node].Pos, "", node))
	case 1:
		w.line()
		w.put("else")
		kids = append(kids, w.block(deep, def, loop))
	}
	return w.add(api.NCond, pos, "", kids...)
}

func (w *writer) def(deep int) int {
	pos, name := w.put("def"), w.name()
	w.put(name)
	w.put("(")
	var kids []int
	names := w.random.Perm(5)
	unset := w.random.Intn(3)
	w.row(w.random.Intn(4), func() {
		name := "abcde"[names[0]:][:1]
		names = names[1:]
		at := w.put(name)
		if unset--; unset >= 0 {
			kids = append(kids, w.add(api.NParam, at, name))
			return
		}
		w.put("=")
		kids = append(kids, w.add(api.NParam, at, name, w.expr(1, 2)))
	})
	w.put(")")
	return w.add(api.NDef, pos, name, append(kids, w.block(deep, true, false))...)
}

func (w *writer) load() int {
	pos := w.put("load")
	w.put("(")
	w.put("'m:n'")
	w.put(",")
	var kids []int
	w.row(1+w.random.Intn(3), func() {
		name, there := w.name(), w.name()
		if w.chance(2) {
			at := w.put("'" + name + "'")
			kids = append(kids, w.add(api.NParam, at, name, w.add(api.NStr, at, name)))
			return
		}
		at := w.put(name)
		w.put("=")
		kids = append(kids, w.add(api.NParam, at, name, w.add(api.NStr, w.put(`"`+there+` !"`), there+" !")))
	})
	w.put(")")
	return w.add(api.NLoad, pos, "m:n", kids...)
}

// P6.1, P6.2: random texts have just the nodes that were written, in their order, and are valid; each time anew.
func TestRandom(t *testing.T) {
	random := rand.New(rand.NewSource(61))
	rounds := 20000
	if testing.Short() {
		rounds = 1500
	}
	ops := map[int]int{}
	for range rounds {
		text, want := written(random, 3)
		for range 2 {
			got, err := parse.Parse(text)
			if err != nil || !slices.EqualFunc(got, want, sameNode) {
				t.Fatalf("%q: %v\n%v, want\n%v", text, err, got, want)
			}
			if err := ast.Valid(got); err != nil {
				t.Fatalf("%q: not valid: %v", text, err)
			}
		}
		for _, node := range want {
			ops[node.Op]++
		}
	}
	for op := api.NNone; op <= api.NBlock; op++ {
		if ops[op] < rounds/100 {
			t.Error("too few are written of", opNames[op], ops[op])
		}
	}
}

// P6.1: random expressions that stand alone.
func TestRandomExpr(t *testing.T) {
	random := rand.New(rand.NewSource(62))
	rounds := 10000
	if testing.Short() {
		rounds = 1000
	}
	for range rounds {
		w := &writer{random: random, fresh: true}
		w.tuple(5)
		if w.chance(2) {
			w.newline()
		}
		got, err := parse.Expr(string(w.text))
		if err != nil || !slices.EqualFunc(got, w.nodes, sameNode) {
			t.Fatalf("%q: %v\n%v, want\n%v", w.text, err, got, w.nodes)
		}
	}
}

func sameNode(a, b api.Node) bool {
	if len(a.Kids) == 0 && len(b.Kids) == 0 {
		a.Kids, b.Kids = nil, nil
	}
	return reflect.DeepEqual(a, b)
}
