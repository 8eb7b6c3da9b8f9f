package show_test

import (
	"strconv"
	"strings"
	"testing"

	"smithy/api"
	"smithy/ast"
	"smithy/parse"
	"smithy/show"
)

var opNames = strings.Fields("? None True False Int Str Name List Tuple Dict Call Arg Dot Index Slice Nothing Neg Not And Or If Add Sub Mul Div Mod " +
	"Eq Ne Lt Le Gt Ge In NotIn Comp Expr Assign AddTo Pass Break Continue Return Load Cond For Def Param Block")

func opOf(name string) int {
	for op, s := range opNames {
		if s == name {
			return op
		}
	}
	panic("no Op: " + name)
}

// treeReader reads trees as the tests say them: Op:S(kids), the kids with a space between; an S with other bytes than
// those of names is quoted; @ is a node that is there already.
type treeReader struct {
	rest  string
	nodes []api.Node
	hole  int
}

// tree is the nodes of such a text.
func tree(text string) []api.Node {
	r := &treeReader{rest: text}
	r.node()
	if r.rest != "" {
		panic("left over of a tree: " + r.rest)
	}
	return r.nodes
}

func (r *treeReader) skip(sign string) bool {
	rest, is := strings.CutPrefix(r.rest, sign)
	r.rest = rest
	return is
}

// word is what stands ahead of the next sign.
func (r *treeReader) word() string {
	if quoted, err := strconv.QuotedPrefix(r.rest); err == nil {
		r.rest = r.rest[len(quoted):]
		s, _ := strconv.Unquote(quoted)
		return s
	}
	end := strings.IndexAny(r.rest, ": ()")
	if end < 0 {
		end = len(r.rest)
	}
	word := r.rest[:end]
	r.rest = r.rest[end:]
	return word
}

func (r *treeReader) node() int {
	if r.skip("@") {
		return r.hole
	}
	node := api.Node{Op: opOf(r.word())}
	if r.skip(":") {
		node.S = r.word()
	}
	if r.skip("(") {
		for !r.skip(")") {
			node.Kids = append(node.Kids, r.node())
			r.skip(" ")
		}
	}
	r.nodes = append(r.nodes, node)
	return len(r.nodes) - 1
}

// isText holds the text of a file's tree against what it has to be.
func isText(t *testing.T, what any, l []api.Node, want string) {
	t.Helper()
	if got, err := show.Text(l); got != want || err != nil {
		t.Errorf("%v: %q, %v; want %q", what, got, err, want)
	}
}

// isExpr holds the text of an expression's tree against what it has to be; that of a file with it, too.
func isExpr(t *testing.T, what any, l []api.Node, want string) {
	t.Helper()
	if got, err := show.Expr(l); got != want || err != nil {
		t.Errorf("%v: %q, %v; want %q", what, got, err, want)
	}
	isText(t, what, asFile(l), want+"\n")
}

// asFile is an expression's tree with an Expr and a Block laid behind.
func asFile(l []api.Node) []api.Node {
	var file []api.Node
	file = append(file, l...)
	return append(file, api.Node{Op: api.NExpr, Kids: []int{len(l) - 1}}, api.Node{Op: api.NBlock, Kids: []int{len(l)}})
}

// turns checks that a file's text is parsed as the same tree, which has the same text.
func turns(t *testing.T, l []api.Node, text string) {
	t.Helper()
	again, err := parse.Parse(text)
	if err != nil || !ast.Same(l, again) {
		t.Errorf("%.300q is another tree: %v", text, err)
		return
	}
	if got, err := show.Text(again); got != text || err != nil {
		t.Errorf("%.300q: then %.300q, %v", text, got, err)
	}
}

// exprTurns is likewise of an expression's.
func exprTurns(t *testing.T, l []api.Node, text string) {
	t.Helper()
	again, err := parse.Expr(text)
	if err != nil || !ast.Same(l, again) {
		t.Errorf("%.300q is another tree: %v", text, err)
		return
	}
	if got, err := show.Expr(again); got != text || err != nil {
		t.Errorf("%.300q: then %.300q, %v", text, got, err)
	}
}
