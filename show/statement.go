package show

import (
	"smithy/api"
	"smithy/lex"
)

// block writes the statements of a Block, each on its lines.
func (w *writer) block(i int) {
	for _, kid := range w.nodes[i].Kids {
		w.statement(kid)
	}
}

// inner ends a line that a Block stands behind, and writes it.
func (w *writer) inner(i int) {
	w.say(":\n")
	w.in++
	w.block(i)
	w.in--
}

func (w *writer) statement(i int) {
	w.indent()
	if w.full {
		return
	}
	switch node := &w.nodes[i]; node.Op {
	case api.NCond:
		w.cond("if ", node)
	case api.NFor:
		w.say("for ")
		w.between(node, " in ")
		w.inner(node.Kids[2])
	case api.NDef:
		w.def(node)
	default:
		w.simple(node)
		w.say("\n")
	}
}

func (w *writer) indent() {
	for range w.in {
		w.say("    ")
	}
}

// cond writes a Cond behind its word.
func (w *writer) cond(word string, node *api.Node) {
	w.say(word)
	w.kid(node, 0)
	w.inner(node.Kids[1])
	if len(node.Kids) > 2 {
		w.otherwise(node.Kids[2])
	}
}

// otherwise writes the second Block of a Cond.
func (w *writer) otherwise(i int) {
	w.indent()
	if w.full {
		return
	}
	kids := w.nodes[i].Kids
	if first := &w.nodes[kids[0]]; len(kids) == 1 && first.Op == api.NCond {
		w.cond("elif ", first)
		return
	}
	w.say("else")
	w.inner(i)
}

func (w *writer) def(node *api.Node) {
	last := len(node.Kids) - 1
	w.say("def ")
	w.say(node.S)
	w.say("(")
	w.row(node.Kids[:last], w.param)
	w.say(")")
	w.inner(node.Kids[last])
}

func (w *writer) param(i int) {
	node := &w.nodes[i]
	if len(node.Kids) > 0 {
		w.named(node)
		return
	}
	w.say(node.S)
}

// simple writes a statement that no Block is in.
func (w *writer) simple(node *api.Node) {
	switch node.Op {
	case api.NExpr:
		w.kid(node, 0)
	case api.NAssign:
		w.between(node, " = ")
	case api.NAddTo:
		w.between(node, " += ")
	case api.NPass:
		w.say("pass")
	case api.NBreak:
		w.say("break")
	case api.NContinue:
		w.say("continue")
	case api.NReturn:
		w.say("return")
		if len(node.Kids) > 0 {
			w.say(" ")
			w.kid(node, 0)
		}
	case api.NLoad:
		w.load(node)
	}
}

func (w *writer) load(node *api.Node) {
	w.say("load(")
	w.say(lex.Quote(node.S))
	for _, kid := range node.Kids {
		w.say(", ")
		w.loaded(&w.nodes[kid])
	}
	w.say(")")
}

// loaded writes the name here and the one there; both as one, where they are the same.
func (w *writer) loaded(param *api.Node) {
	if there := w.nodes[param.Kids[0]].S; there == param.S {
		w.say(lex.Quote(there))
		return
	}
	w.named(param)
}
