package ast

import (
	"smithy/api"
	"smithy/lex"
)

// sort is what a node can be a kid as: one bit each.
type sort uint16

const (
	expression sort = 1 << iota
	nothing         // a bound that is left out
	argument        // one with a name
	target
	cell // a target that is no Tuple: what can be added to
	statement
	param
	loaded // a param that has the name in the other module
	block
)

// former holds nodes against the forms of their Ops, one after the other, from the first on.
type former struct {
	nodes []api.Node
	taken kin
	sorts []sort // of the nodes that have their form
}

// form tells whether node i has the form of its Op; all nodes ahead of it have theirs.
func (f *former) form(i int) bool {
	node := f.nodes[i]
	// The places come first: what looks at kids relies on them.
	if !f.taken.take(i, node.Kids) || node.N != 0 || !saysRight(node) || !f.hasRight(node) {
		return false
	}
	f.sorts[i] = f.sortOf(node)
	return true
}

// saysRight tells whether a node's S is one for its Op.
func saysRight(node api.Node) bool {
	switch node.Op {
	case api.NStr, api.NLoad:
		return true
	case api.NInt:
		return isNumber(node.S)
	case api.NName, api.NArg, api.NDot, api.NDef, api.NParam:
		return lex.Name(node.S)
	}
	return node.S == ""
}

func isNumber(s string) bool {
	for i := range len(s) {
		if s[i] < '0' || s[i] > '9' {
			return false
		}
	}
	return s == "0" || s != "" && s[0] != '0' && len(s) <= api.MaxDigits
}

// hasRight tells whether a node's kids are those of its Op; of what is no Op they are not.
func (f *former) hasRight(node api.Node) bool {
	return f.expressionHas(node.Op, node.Kids) || f.statementHas(node.Op, node.Kids)
}

func (f *former) expressionHas(op int, kids []int) bool {
	switch op {
	case api.NNone, api.NTrue, api.NFalse, api.NInt, api.NStr, api.NName, api.NNothing:
		return f.are(kids)
	case api.NList, api.NTuple:
		return f.all(kids, expression)
	case api.NDict:
		return len(kids)%2 == 0 && f.all(kids, expression)
	case api.NCall:
		return f.calls(kids)
	case api.NArg, api.NDot, api.NNeg, api.NNot:
		return f.are(kids, expression)
	case api.NIndex, api.NAnd, api.NOr, api.NAdd, api.NSub, api.NMul, api.NDiv, api.NMod,
		api.NEq, api.NNe, api.NLt, api.NLe, api.NGt, api.NGe, api.NIn, api.NNotIn:
		return f.are(kids, expression, expression)
	case api.NSlice:
		return f.are(kids, expression, expression|nothing, expression|nothing)
	case api.NIf:
		return f.are(kids, expression, expression, expression)
	case api.NComp:
		return f.are(kids, expression, target, expression) || f.are(kids, expression, target, expression, expression)
	}
	return false
}

func (f *former) statementHas(op int, kids []int) bool {
	switch op {
	case api.NPass, api.NBreak, api.NContinue:
		return f.are(kids)
	case api.NExpr:
		return f.are(kids, expression)
	case api.NReturn, api.NParam:
		return f.are(kids) || f.are(kids, expression)
	case api.NAssign:
		return f.are(kids, target, expression)
	case api.NAddTo:
		return f.are(kids, cell, expression)
	case api.NLoad:
		return len(kids) > 0 && f.all(kids, loaded)
	case api.NCond:
		return f.are(kids, expression, block) || f.are(kids, expression, block, block)
	case api.NFor:
		return f.are(kids, target, expression, block)
	case api.NDef:
		last := len(kids) - 1
		return last >= 0 && f.all(kids[:last], param) && f.are(kids[last:], block)
	case api.NBlock:
		return len(kids) > 0 && f.all(kids, statement)
	}
	return false
}

// calls tells whether kids are what is called, expressions, and arguments with names.
func (f *former) calls(kids []int) bool {
	by := len(kids)
	for by > 0 && f.are(kids[by-1:by], argument) {
		by--
	}
	return by > 0 && f.all(kids[:by], expression)
}

// are tells whether kids are just so many, each of one of its sorts.
func (f *former) are(kids []int, sorts ...sort) bool {
	if len(kids) != len(sorts) {
		return false
	}
	for i, kid := range kids {
		if f.sorts[kid]&sorts[i] == 0 {
			return false
		}
	}
	return true
}

// all tells whether each kid is of the sort.
func (f *former) all(kids []int, s sort) bool {
	for _, kid := range kids {
		if f.sorts[kid]&s == 0 {
			return false
		}
	}
	return true
}

// sortOf is the sorts of a node that has its form.
func (f *former) sortOf(node api.Node) sort {
	switch node.Op {
	case api.NName, api.NIndex:
		return expression | target | cell
	case api.NTuple:
		if len(node.Kids) > 0 && f.all(node.Kids, target) {
			return expression | target
		}
		return expression
	case api.NNothing:
		return nothing
	case api.NArg:
		return argument
	case api.NExpr, api.NAssign, api.NAddTo, api.NPass, api.NBreak, api.NContinue, api.NReturn, api.NLoad,
		api.NCond, api.NFor, api.NDef:
		return statement
	case api.NParam:
		if len(node.Kids) == 1 && f.nodes[node.Kids[0]].Op == api.NStr {
			return param | loaded
		}
		return param
	case api.NBlock:
		return block
	}
	return expression
}
