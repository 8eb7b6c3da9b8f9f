package ast_test

import (
	"math/rand"
	"slices"
	"strconv"
	"testing"

	"smithy/api"
	"smithy/ast"
)

// grower makes random trees without a fault.
type grower struct {
	random *rand.Rand
	l      []api.Node
}

func (g *grower) add(op int, s string, kids ...int) int {
	g.l = append(g.l, api.Node{Op: op, S: s, Kids: kids, Pos: g.random.Intn(100)})
	return len(g.l) - 1
}

func (g *grower) name() string {
	return "abcdefgh"[g.random.Intn(8):][:1]
}

func (g *grower) maybe() bool {
	return g.random.Intn(2) == 0
}

// some is so many expressions, one a time.
func (g *grower) some(deep, n int) []int {
	var kids []int
	for range n {
		kids = append(kids, g.expression(deep))
	}
	return kids
}

func (g *grower) leaf() int {
	switch op := []int{api.NNone, api.NTrue, api.NFalse, api.NInt, api.NStr, api.NName, api.NName}[g.random.Intn(7)]; op {
	case api.NInt:
		return g.add(op, strconv.Itoa(g.random.Intn(30)))
	case api.NStr, api.NName:
		return g.add(op, g.name())
	default:
		return g.add(op, "")
	}
}

func (g *grower) expression(deep int) int {
	op := api.NList + g.random.Intn(api.NComp-api.NList+1)
	if deep == 0 || g.random.Intn(3) == 0 {
		return g.leaf()
	}
	deep--
	switch op {
	case api.NList, api.NTuple:
		return g.add(op, "", g.some(deep, g.random.Intn(3))...)
	case api.NDict:
		return g.add(op, "", g.some(deep, 2*g.random.Intn(3))...)
	case api.NCall, api.NArg:
		kids := g.some(deep, 1+g.random.Intn(3))
		for range g.random.Intn(3) {
			kids = append(kids, g.add(api.NArg, g.name(), g.expression(deep)))
		}
		return g.add(api.NCall, "", kids...)
	case api.NDot:
		return g.add(op, g.name(), g.expression(deep))
	case api.NSlice, api.NNothing:
		return g.add(api.NSlice, "", g.expression(deep), g.bound(deep), g.bound(deep))
	case api.NNeg, api.NNot:
		return g.add(op, "", g.expression(deep))
	case api.NIf:
		return g.add(op, "", g.some(deep, 3)...)
	case api.NComp:
		kids := []int{g.expression(deep), g.target(deep)}
		return g.add(op, "", append(kids, g.some(deep, 1+g.random.Intn(2))...)...)
	}
	return g.add(op, "", g.some(deep, 2)...)
}

func (g *grower) bound(deep int) int {
	if g.maybe() {
		return g.add(api.NNothing, "")
	}
	return g.expression(deep)
}

func (g *grower) target(deep int) int {
	switch {
	case deep == 0 || g.random.Intn(3) == 0:
		return g.add(api.NName, g.name())
	case g.maybe():
		return g.add(api.NIndex, "", g.some(deep-1, 2)...)
	}
	var kids []int
	for range 1 + g.random.Intn(2) {
		kids = append(kids, g.target(deep-1))
	}
	return g.add(api.NTuple, "", kids...)
}

// block is one that stands in a Def, or in a For of the same Def, or in the whole.
func (g *grower) block(deep int, whole, def, loop bool) int {
	var kids []int
	for range 1 + g.random.Intn(3) {
		kids = append(kids, g.statement(deep, whole, def, loop))
	}
	return g.add(api.NBlock, "", kids...)
}

func (g *grower) statement(deep int, whole, def, loop bool) int {
	op := api.NExpr + g.random.Intn(api.NDef-api.NExpr+1)
	switch {
	case op == api.NAssign:
		return g.add(op, "", g.target(deep), g.expression(deep))
	case op == api.NAddTo && g.maybe():
		return g.add(op, "", g.add(api.NName, g.name()), g.expression(deep))
	case op == api.NAddTo:
		return g.add(op, "", g.add(api.NIndex, "", g.some(deep, 2)...), g.expression(deep))
	case (op == api.NBreak || op == api.NContinue) && loop, op == api.NPass:
		return g.add(op, "")
	case op == api.NReturn && def:
		return g.add(op, "", g.some(deep, g.random.Intn(2))...)
	case op == api.NLoad && whole:
		var kids []int
		for range 1 + g.random.Intn(2) {
			kids = append(kids, g.add(api.NParam, g.name(), g.add(api.NStr, g.name())))
		}
		return g.add(op, g.name(), kids...)
	case op == api.NCond && deep > 0:
		kids := []int{g.expression(deep - 1), g.block(deep-1, false, def, loop)}
		if g.maybe() {
			kids = append(kids, g.block(deep-1, false, def, loop))
		}
		return g.add(op, "", kids...)
	case op == api.NFor && deep > 0:
		return g.add(op, "", g.target(deep-1), g.expression(deep-1), g.block(deep-1, false, def, true))
	case op == api.NDef && whole:
		return g.def(deep)
	}
	return g.add(api.NExpr, "", g.expression(deep))
}

func (g *grower) def(deep int) int {
	var kids []int
	names := g.random.Perm(8)[:g.random.Intn(4)]
	given := g.random.Intn(len(names) + 1)
	for i, n := range names {
		kids = append(kids, g.add(api.NParam, "abcdefgh"[n:][:1], g.some(1, min(1, max(0, i-given+1)))...))
	}
	return g.add(api.NDef, g.name(), append(kids, g.block(deep, false, true, false))...)
}

func grown(random *rand.Rand) []api.Node {
	g := &grower{random: random}
	g.block(1+random.Intn(3), true, false, false)
	return g.l
}

// strewn is the same tree, its nodes in another order, with other Pos.
func strewn(random *rand.Rand, l []api.Node) []api.Node {
	var out []api.Node
	at := make([]int, len(l)) // where each node is now, counted from 1
	for len(out) < len(l) {
		i := random.Intn(len(l))
		if at[i] > 0 || slices.ContainsFunc(l[i].Kids, func(kid int) bool { return at[kid] == 0 }) {
			continue
		}
		node := l[i]
		node.Pos, node.Kids = random.Intn(1000), nil
		for _, kid := range l[i].Kids {
			node.Kids = append(node.Kids, at[kid]-1)
		}
		out = append(out, node)
		at[i] = len(out)
	}
	return out
}

// bent is the list with one thing turned.
func bent(random *rand.Rand, l []api.Node) []api.Node {
	l = slices.Clone(l)
	i := random.Intn(len(l))
	if random.Intn(10) == 0 {
		return slices.Concat(l[:i], l[i+1:])
	}
	node := &l[i]
	node.Kids = slices.Clone(node.Kids)
	n := len(node.Kids)
	switch what := random.Intn(9); {
	case what == 0:
		node.N = random.Intn(5) - 2
	case what <= 2:
		node.S = texts[random.Intn(len(texts))]
	case what == 3:
		node.S = "abcdefgh"[random.Intn(8):][:1]
	case what == 4 && n > 0:
		node.Kids[random.Intn(n)] += random.Intn(5) - 2
	case what == 5 && n > 0:
		node.Kids = slices.Delete(node.Kids, n-1, n)
	case what == 6 && n > 1:
		k := 1 + random.Intn(n-1)
		node.Kids[k-1], node.Kids[k] = node.Kids[k], node.Kids[k-1]
	case what == 7:
		node.Kids = append(node.Kids, random.Intn(i+2)-1)
	default:
		node.Op = near(random, node.Op)
	}
	return l
}

// near is an Op, most often one of a like form.
func near(random *rand.Rand, op int) int {
	for _, like := range [][]int{
		{api.NPass, api.NBreak, api.NContinue, api.NReturn},
		{api.NExpr, api.NReturn, api.NNot, api.NNeg},
		{api.NName, api.NParam, api.NStr, api.NInt},
		{api.NCond, api.NFor, api.NDef, api.NBlock},
		{api.NAssign, api.NAddTo, api.NAdd, api.NIndex},
		{api.NTuple, api.NList, api.NDict, api.NCall},
	} {
		if slices.Contains(like, op) && random.Intn(3) > 0 {
			return like[random.Intn(len(like))]
		}
	}
	return random.Intn(api.NBlock+3) - 1
}

// P5.1: random trees, and such with one thing or several turned, against the plain way.
func TestValidRandom(t *testing.T) {
	random := rand.New(rand.NewSource(5))
	rounds := 15000
	if testing.Short() {
		rounds = 2000
	}
	fine, bad := 0, 0
	for range rounds {
		l := grown(random)
		if random.Intn(2) == 0 && len(l) < 40 {
			l = strewn(random, l)
		}
		if !asPlain(t, l) {
			t.Fatal("grown with a fault:", l)
		}
		for range 3 {
			l = bent(random, l)
			if len(l) == 0 {
				break
			}
			if asPlain(t, l) {
				fine++
			} else {
				bad++
			}
		}
		if t.Failed() {
			return
		}
	}
	if fine < rounds/8 || bad < rounds/8 {
		t.Error("too few of one sort:", fine, bad)
	}
}

// P5.2: random trees are the same as what they are strewn to, and as what is bent just if the plain way has it so.
func TestSameRandom(t *testing.T) {
	random := rand.New(rand.NewSource(6))
	rounds := 4000
	if testing.Short() {
		rounds = 500
	}
	count := map[bool]int{}
	for range rounds {
		l := grown(random)
		for len(l) > 60 {
			l = grown(random)
		}
		other := strewn(random, l)
		if !ast.Same(l, other) || !ast.Same(other, l) {
			t.Fatal(l, other)
		}
		other = bent(random, other)
		a, _ := plainWhole(l)
		b, _ := plainWhole(other)
		count[a == b]++
		if ast.Same(l, other) != (a == b) || ast.Same(other, l) != (a == b) {
			t.Fatal(l, other)
		}
	}
	if count[true] < rounds/100 || count[false] < rounds/2 {
		t.Error("too few of one sort:", count)
	}
}
