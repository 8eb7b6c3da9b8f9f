package ast_test

import (
	"regexp"
	"slices"
	"strconv"
	"strings"
	"testing"

	"smithy/api"
	"smithy/ast"
)

// The plain way: a node's kids are a row of letters, one a kid, that the text of its Op's form has to match; where a node stands
// is looked up from below, by the nodes that it is within.

const plainLeaf, plainTwo = "", "EE"

// plainForm is the form of an Op's kids: E any expression, T a target, C one that is no Tuple, P a Param.
func plainForm(op int) (string, bool) {
	forms := map[int]string{
		api.NNone: plainLeaf, api.NTrue: plainLeaf, api.NFalse: plainLeaf, api.NInt: plainLeaf, api.NStr: plainLeaf, api.NName: plainLeaf, api.NNothing: plainLeaf,
		api.NList: "E*", api.NTuple: "E*", api.NDict: "(EE)*", api.NCall: "EE*a*", api.NArg: "E", api.NDot: "E", api.NIndex: plainTwo,
		api.NSlice: "E(E|o)(E|o)", api.NNeg: "E", api.NNot: "E", api.NIf: "EEE", api.NComp: "ETEE?",
		api.NExpr: "E", api.NAssign: "TE", api.NAddTo: "CE", api.NPass: plainLeaf, api.NBreak: plainLeaf, api.NContinue: plainLeaf,
		api.NReturn: "E?", api.NLoad: "l+", api.NCond: "EBB?", api.NFor: "TEB", api.NDef: "P*B", api.NParam: "E?", api.NBlock: "S+",
	}
	if form, is := forms[op]; is {
		return form, true
	}
	is := op == api.NAnd || op == api.NOr || api.NAdd <= op && op <= api.NNotIn
	return plainTwo, is
}

// plainMatch holds the forms as patterns, made once each.
var plainMatch = map[int]*regexp.Regexp{}

func plainPattern(op int) *regexp.Regexp {
	if p, is := plainMatch[op]; is {
		return p
	}
	form, is := plainForm(op)
	if !is {
		form = "x"
	}
	letters := strings.NewReplacer("E", "[nituse]", "T", "[nit]", "C", "[ni]", "P", "[pl]")
	plainMatch[op] = regexp.MustCompile("^(?:" + letters.Replace(form) + ")$")
	return plainMatch[op]
}

// plainLetter is what a node is as a kid.
func plainLetter(l []api.Node, i int) string {
	switch op := l[i].Op; op {
	case api.NName:
		return "n"
	case api.NIndex:
		return "i"
	case api.NTuple:
		if plainTuple.MatchString(plainRow(l, i)) {
			return "t"
		}
		return "u"
	case api.NStr:
		return "s"
	case api.NNothing:
		return "o"
	case api.NArg:
		return "a"
	case api.NParam:
		if plainRow(l, i) == "s" {
			return "l"
		}
		return "p"
	case api.NBlock:
		return "B"
	default:
		if op >= api.NExpr {
			return "S"
		}
		return "e"
	}
}

func plainRow(l []api.Node, i int) string {
	row := ""
	for _, kid := range l[i].Kids {
		row += plainLetter(l, kid)
	}
	return row
}

var (
	plainName   = regexp.MustCompile(`^[A-Za-z_][A-Za-z_0-9]*$`)
	plainTuple  = regexp.MustCompile(`^[nit]+$`)
	plainNumber = regexp.MustCompile(`^(?:0|[1-9][0-9]*)$`)
	plainWords  = strings.Fields("and break continue def elif else for if in load not or pass return None True False")
)

func plainSays(node api.Node) bool {
	switch node.Op {
	case api.NStr, api.NLoad:
		return true
	case api.NInt:
		return plainNumber.MatchString(node.S) && len(node.S) <= 600
	case api.NName, api.NArg, api.NDot, api.NDef, api.NParam:
		return plainName.MatchString(node.S) && !slices.Contains(plainWords, node.S)
	}
	return node.S == ""
}

// plainParents is the node that has each one as a kid, by the first so many nodes; -1 of none. It tells whether they can be a tree's.
func plainParents(l []api.Node, n int) ([]int, bool) {
	parents := slices.Repeat([]int{-1}, len(l))
	for i, node := range l[:n] {
		for _, kid := range node.Kids {
			if kid < 0 || kid >= i || parents[kid] >= 0 {
				return nil, false
			}
			parents[kid] = i
		}
	}
	return parents, true
}

// plainStands tells whether a node may stand within those that it is within, from the next one to the whole.
func plainStands(op int, outer []int) bool {
	def, loop := slices.Index(outer, api.NDef), slices.Index(outer, api.NFor)
	switch op {
	case api.NBreak, api.NContinue:
		return loop >= 0 && (def < 0 || loop < def)
	case api.NReturn:
		return def >= 0
	case api.NLoad, api.NDef:
		return len(outer) == 1
	}
	return true
}

func plainParams(l []api.Node, def api.Node) bool {
	seen := map[string]bool{}
	row := ""
	for _, kid := range def.Kids[:len(def.Kids)-1] {
		seen[l[kid].S] = true
		row += strconv.Itoa(len(l[kid].Kids))
	}
	return len(seen) == len(row) && !strings.Contains(row, "10")
}

// plainFault is the place of the first fault; -1 of none.
func plainFault(l []api.Node) int {
	for i, node := range l {
		if _, is := plainParents(l, i+1); !is || node.N != 0 || !plainSays(node) || !plainPattern(node.Op).MatchString(plainRow(l, i)) {
			return i
		}
	}
	last := len(l) - 1
	if last < 0 {
		return 0
	}
	parents, _ := plainParents(l, len(l))
	if l[last].Op != api.NBlock || slices.Index(parents, -1) != last {
		return last
	}
	for i, node := range l {
		var outer []int
		for up := parents[i]; up >= 0; up = parents[up] {
			outer = append(outer, l[up].Op)
		}
		if !plainStands(node.Op, outer) || node.Op == api.NDef && !plainParams(l, node) {
			return last
		}
	}
	return -1
}

// plainTree tells a tree from the node on, as a text that is the same of trees that are the same alone; and its depth.
func plainTree(l []api.Node, i int) (string, int) {
	tells, deep := "", 0
	for _, kid := range l[i].Kids {
		tell, d := plainTree(l, kid)
		tells += tell + ","
		deep = max(deep, d)
	}
	return strconv.Itoa(l[i].Op) + " " + strconv.Itoa(l[i].N) + " " + strconv.Quote(l[i].S) + "(" + tells + ")", deep + 1
}

// plainWhole is that of the whole; empty and 0 of no tree.
func plainWhole(l []api.Node) (string, int) {
	parents, is := plainParents(l, len(l))
	if !is || len(l) == 0 || slices.Index(parents, -1) != len(l)-1 {
		return "", 0
	}
	return plainTree(l, len(l)-1)
}

// asPlain holds Valid and Deep against the plain way, and tells whether there is no fault.
func asPlain(t *testing.T, l []api.Node) bool {
	t.Helper()
	want := plainFault(l)
	if want < 0 {
		valid(t, l, l)
	} else {
		faults(t, l, l, want)
	}
	if _, deep := plainWhole(l); ast.Deep(l) != deep {
		t.Errorf("Deep of %v: %d, not %d", l, ast.Deep(l), deep)
	}
	return want < 0
}

// eachRow does it with every row of letters, of at most so many.
func eachRow(letters string, most int, do func(row string)) {
	var next func(row string, more int)
	next = func(row string, more int) {
		do(row)
		if more == 0 {
			return
		}
		for i := range letters {
			next(row+letters[i:i+1], more-1)
		}
	}
	next("", most)
}

// P5.1: each Op with every short row of kids of every sort.
func TestAllRows(t *testing.T) {
	most := 3
	if testing.Short() {
		most = 2
	}
	for op := -1; op <= api.NBlock+2; op++ {
		s := ""
		for _, f := range forms {
			if f.op == op {
				s = f.s
			}
		}
		more := 0
		switch op {
		case api.NDict, api.NCall, api.NComp, api.NDef:
			more = 1
		}
		eachRow(sampleLetters, most+more, func(row string) {
			l := append(of(op, s, row), pass()...)
			want := len(l) - 1
			letters := strings.NewReplacer("v", "u", "q", "p").Replace(row)
			if !plainPattern(op).MatchString(letters) {
				want--
			}
			faults(t, []any{op, row}, l, want)
		})
	}
}

// P5.1, P5.2: each short list of nodes, with every short row of kids, right and wrong.
func TestAllKids(t *testing.T) {
	const places = "-0123" // `-` is below 0
	var kids [][]int
	eachRow(places, 2, func(row string) {
		var l []int
		for _, letter := range row {
			l = append(l, strings.IndexRune(places, letter)-1)
		}
		kids = append(kids, l)
	})
	most := 4
	if testing.Short() {
		most = 3
	}
	var next func(l []api.Node)
	next = func(l []api.Node) {
		_, deep := plainWhole(l)
		if got := ast.Deep(l); got != deep {
			t.Fatal(l, got, deep)
		}
		if same := ast.Same(l, l); same != (deep > 0) {
			t.Fatal(l, same)
		}
		faults(t, l, l, plainFault(l))
		if len(l) == most {
			return
		}
		for _, k := range kids {
			next(append(slices.Clone(l), api.Node{Op: api.NList, Kids: k}))
		}
	}
	next(nil)
}
