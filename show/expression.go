package show

import (
	"smithy/api"
	"smithy/lex"
)

// expression writes node i, without brackets around it.
func (w *writer) expression(i int) {
	// Each has a byte of its own at least, so no more of them fit than bytes. The bytes themselves would tell it too late:
	// those of many stand behind their kids, however deep these go.
	if w.begun == api.MaxText {
		w.full = true
	}
	if w.full {
		return
	}
	w.begun++
	switch node := &w.nodes[i]; Rank(node.Op) {
	case primaryRank:
		w.primary(node)
	case ifRank:
		w.kid(node, 1)
		w.say(" if ")
		w.kid(node, 0)
		w.say(" else ")
		w.kid(node, 2)
	case notRank:
		w.say("not ")
		w.kid(node, 0)
	case negRank:
		w.say("-")
		w.kid(node, 0)
	default:
		w.between(node, sign(node.Op))
	}
}

// sign is what stands between the two that a binary Op has.
func sign(op int) string {
	switch op {
	case api.NOr:
		return " or "
	case api.NAnd:
		return " and "
	case api.NEq:
		return " == "
	case api.NNe:
		return " != "
	case api.NLt:
		return " < "
	case api.NLe:
		return " <= "
	case api.NGt:
		return " > "
	case api.NGe:
		return " >= "
	case api.NIn:
		return " in "
	case api.NNotIn:
		return " not in "
	case api.NAdd:
		return " + "
	case api.NSub:
		return " - "
	case api.NMul:
		return " * "
	case api.NDiv:
		return " // "
	}
	return " % " // of Mod
}

func (w *writer) primary(node *api.Node) {
	switch node.Op {
	case api.NNone:
		w.say("None")
	case api.NTrue:
		w.say("True")
	case api.NFalse:
		w.say("False")
	case api.NInt, api.NName:
		w.say(node.S)
	case api.NStr:
		w.say(lex.Quote(node.S))
	case api.NList, api.NTuple, api.NDict, api.NComp:
		w.bracketed(node)
	default:
		w.hung(node)
	}
}

// bracketed writes what has brackets around all of it.
func (w *writer) bracketed(node *api.Node) {
	switch node.Op {
	case api.NList:
		w.say("[")
		w.row(node.Kids, w.expression)
		w.say("]")
	case api.NTuple:
		w.say("(")
		w.row(node.Kids, w.expression)
		if len(node.Kids) == 1 {
			w.say(",")
		}
		w.say(")")
	case api.NDict:
		w.dict(node)
	case api.NComp:
		w.comp(node)
	}
}

func (w *writer) dict(node *api.Node) {
	w.say("{")
	for at := 0; at < len(node.Kids); at += 2 {
		if at > 0 {
			w.say(", ")
		}
		w.expression(node.Kids[at])
		w.say(": ")
		w.expression(node.Kids[at+1])
	}
	w.say("}")
}

func (w *writer) comp(node *api.Node) {
	w.say("[")
	w.kid(node, 0)
	w.say(" for ")
	w.kid(node, 1)
	w.say(" in ")
	w.kid(node, 2)
	if len(node.Kids) > 3 {
		w.say(" if ")
		w.kid(node, 3)
	}
	w.say("]")
}

// hung writes what stands behind what it is of, and that ahead of it.
func (w *writer) hung(node *api.Node) {
	w.kid(node, 0)
	switch node.Op {
	case api.NDot:
		w.say(".")
		w.say(node.S)
	case api.NCall:
		w.say("(")
		w.row(node.Kids[1:], w.argument)
		w.say(")")
	case api.NIndex:
		w.say("[")
		w.kid(node, 1)
		w.say("]")
	case api.NSlice:
		w.say("[")
		w.bound(node.Kids[1])
		w.say(":")
		w.bound(node.Kids[2])
		w.say("]")
	}
}

func (w *writer) argument(i int) {
	if w.nodes[i].Op == api.NArg {
		w.named(&w.nodes[i])
		return
	}
	w.expression(i)
}

// bound writes one of a Slice, if it is not left out.
func (w *writer) bound(i int) {
	if w.nodes[i].Op != api.NNothing {
		w.expression(i)
	}
}
