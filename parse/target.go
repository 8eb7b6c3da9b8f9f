package parse

import (
	"slices"

	"smithy/api"
)

// targets reads what a For or a Comp gives its items to.
func (p *parser) targets() int {
	return p.bare(p.targetRow)
}

func (p *parser) targetRow() ([]int, bool) {
	return p.row(p.target, p.targetBegins)
}

func (p *parser) targetBegins() bool {
	return p.token().Kind == api.TName || p.sees("(")
}

// target reads a part of that. It is no test: an `in` behind it is the For's or the Comp's.
func (p *parser) target() int {
	if p.sees("(") {
		return p.round(p.targetRow)
	}
	p.allow(p.targetBegins())
	first := p.token()
	node := p.primary()
	if !p.isTarget(node) {
		panic(fault(first.Pos, api.ErrParse))
	}
	return node
}

// isTarget tells whether an expression is one that can be assigned to.
func (p *parser) isTarget(node int) bool {
	if p.isCell(node) {
		return true
	}
	noTarget := func(kid int) bool { return !p.isTarget(kid) }
	x := p.nodes[node]
	return x.Op == api.NTuple && len(x.Kids) > 0 && !slices.ContainsFunc(x.Kids, noTarget)
}

// isCell tells whether an expression is one that can be added to.
func (p *parser) isCell(node int) bool {
	op := p.nodes[node].Op
	return op == api.NName || op == api.NIndex
}
