package show

import (
	"strings"

	"smithy/api"
)

// writer writes the text of a valid tree.
type writer struct {
	nodes []api.Node
	text  strings.Builder
	in    int  // how many Blocks its line stands in
	begun int  // how many expressions
	full  bool // there would be more than MaxText bytes: nothing is written any more
}

func (w *writer) say(s string) {
	if w.full || len(s) > api.MaxText-w.text.Len() {
		w.full = true
		return
	}
	w.text.WriteString(s)
}

// written is what has been written, if it is all.
func (w *writer) written() (string, error) {
	if w.full {
		return "", api.ErrLimit
	}
	return w.text.String(), nil
}

// row writes something of each of the kids, with commas between.
func (w *writer) row(kids []int, write func(kid int)) {
	for at, kid := range kids {
		if at > 0 {
			w.say(", ")
		}
		write(kid)
	}
}

// named writes a name, and the one kid that is what it stands for.
func (w *writer) named(node *api.Node) {
	w.say(node.S)
	w.say(" = ")
	w.kid(node, 0)
}

// between writes two kids and a sign.
func (w *writer) between(node *api.Node, sign string) {
	w.kid(node, 0)
	w.say(sign)
	w.kid(node, 1)
}

// kid writes the expression that a node has in that place, in brackets if it needs them there.
func (w *writer) kid(node *api.Node, place int) {
	kid := node.Kids[place]
	if !needsBrackets(node.Op, place, w.nodes[kid].Op) {
		w.expression(kid)
		return
	}
	w.say("(")
	w.expression(kid)
	w.say(")")
}
