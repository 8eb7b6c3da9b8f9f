package parse_test

import (
	"errors"
	"strconv"
	"strings"
	"testing"

	"smithy/api"
	"smithy/ast"
	"smithy/parse"
)

var opNames = strings.Fields("? None True False Int Str Name List Tuple Dict Call Arg Dot Index Slice Nothing Neg Not And Or If Add Sub Mul Div Mod " +
	"Eq Ne Lt Le Gt Ge In NotIn Comp Expr Assign AddTo Pass Break Continue Return Load Cond For Def Param Block")

func itoa(n int) string {
	return strconv.Itoa(n)
}

// shown is node i and all beneath it: Op:S@Pos(kids).
func shown(l []api.Node, i int) string {
	node := l[i]
	s := opNames[node.Op]
	if node.S != "" {
		s += ":" + node.S
	}
	s += "@" + itoa(node.Pos)
	var kids []string
	for _, kid := range node.Kids {
		kids = append(kids, shown(l, kid))
	}
	if len(kids) > 0 {
		s += "(" + strings.Join(kids, " ") + ")"
	}
	return s
}

// asRead is a node's kids in the order in which they are read: of an If the condition stands second.
func asRead(node api.Node) []int {
	if node.Op == api.NIf && len(node.Kids) == 3 {
		return []int{node.Kids[1], node.Kids[0], node.Kids[2]}
	}
	return node.Kids
}

// inOrder tells whether the nodes lie as they are read, each directly behind its last kid.
func inOrder(l []api.Node) bool {
	first := make([]int, len(l)) // of each node the first one beneath it
	for i, node := range l {
		kids := asRead(node)
		from := i
		for k := len(kids) - 1; k >= 0; k-- {
			if kids[k] != from-1 {
				return false
			}
			from = first[kids[k]]
		}
		first[i] = from
	}
	return len(l) > 0 && first[len(l)-1] == 0
}

func sound(t *testing.T, text string, l []api.Node, want string) {
	t.Helper()
	if got := shown(l, len(l)-1); got != want {
		t.Errorf("%q:\n%s, want\n%s", text, got, want)
	}
	if !inOrder(l) {
		t.Errorf("%q: the nodes are not in order: %v", text, l)
	}
}

// isFile holds the tree of a file against what it has to be.
func isFile(t *testing.T, text, want string) {
	t.Helper()
	l, err := parse.Parse(text)
	if err != nil {
		t.Errorf("%q: %v", text, err)
		return
	}
	if err := ast.Valid(l); err != nil {
		t.Errorf("%q: not valid: %v", text, err)
	}
	sound(t, text, l, want)
}

// isExpr holds the tree of an expression against what it has to be; that of a file with it, too.
func isExpr(t *testing.T, text, want string) {
	t.Helper()
	l, err := parse.Expr(text)
	if err != nil {
		t.Errorf("%q: %v", text, err)
		return
	}
	sound(t, text, l, want)
	pos := itoa(l[len(l)-1].Pos)
	isFile(t, text, "Block@"+pos+"(Expr@"+pos+"("+want+"))")
}

func isFault(t *testing.T, text string, l []api.Node, err error, pos int, kind error) {
	t.Helper()
	var at *api.At
	if l != nil || !errors.Is(err, kind) || !errors.As(err, &at) || at.Pos != pos || at.Err != kind {
		t.Errorf("%.200q: %v, %v; want %v at %d", text, l, err, kind, pos)
	}
}

// faults tells of a file's ErrParse.
func faults(t *testing.T, text string, pos int) {
	t.Helper()
	l, err := parse.Parse(text)
	isFault(t, text, l, err, pos, api.ErrParse)
}

// exprFaults tells of an expression's ErrParse; as a file it has the same.
func exprFaults(t *testing.T, text string, pos int) {
	t.Helper()
	l, err := parse.Expr(text)
	isFault(t, text, l, err, pos, api.ErrParse)
	faults(t, text, pos)
}

// limits tells of a file's ErrLimit.
func limits(t *testing.T, text string, pos int) {
	t.Helper()
	l, err := parse.Parse(text)
	isFault(t, text, l, err, pos, api.ErrLimit)
}

// passes tells that a file has no fault.
func passes(t *testing.T, text string) {
	t.Helper()
	l, err := parse.Parse(text)
	if err != nil {
		t.Errorf("%.200q: %v", text, err)
		return
	}
	if err := ast.Valid(l); err != nil {
		t.Errorf("%.200q: not valid: %v", text, err)
	}
	if !inOrder(l) {
		t.Errorf("%.200q: the nodes are not in order", text)
	}
}
