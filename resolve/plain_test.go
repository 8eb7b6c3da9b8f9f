package resolve_test

import (
	"slices"

	"smithy/api"
	"smithy/resolve"
)

// plainTree is the plain way: it looks up from each node to all that the node stands in, each time anew.
type plainTree struct {
	l      []api.Node
	parent []int
	nth    []int // which kid of it
	given  []string
}

func plainOf(l []api.Node, given []string) *plainTree {
	p := &plainTree{l: l, parent: make([]int, len(l)), nth: make([]int, len(l)), given: given}
	for i, node := range l {
		for n, kid := range node.Kids {
			p.parent[kid], p.nth[kid] = i, n
		}
	}
	return p
}

// around is the Comps and the Def that node i stands in, from the inside; the whole is the last.
func (p *plainTree) around(i int) []int {
	var found []int
	for last := len(p.l) - 1; i != last; i = p.parent[i] {
		up := p.l[p.parent[i]]
		if up.Op == api.NComp && p.nth[i] != 2 || up.Op == api.NDef && p.nth[i] == len(up.Kids)-1 {
			found = append(found, p.parent[i])
		}
	}
	return append(found, len(p.l)-1)
}

// bound is the name that node i binds, if it does so.
func (p *plainTree) bound(i int) string {
	top := i
	if p.l[i].Op == api.NName {
		for p.l[p.parent[top]].Op == api.NTuple {
			top = p.parent[top]
		}
	}
	var of int
	if top != len(p.l)-1 {
		of = p.l[p.parent[top]].Op
	}
	is := false
	switch p.l[i].Op {
	case api.NName:
		is = p.nth[top] == 0 && (of == api.NAssign || of == api.NAddTo || of == api.NFor) || p.nth[top] == 1 && of == api.NComp
	case api.NDef:
		is = true
	case api.NParam:
		is = of == api.NLoad
	}
	if is {
		return p.l[i].S
	}
	return ""
}

// names is what a Comp, a Def or the whole binds.
func (p *plainTree) names(scope int) []string {
	var names []string
	if node := p.l[scope]; node.Op == api.NDef {
		for _, kid := range node.Kids[:len(node.Kids)-1] {
			names = append(names, p.l[kid].S)
		}
	}
	for i := range p.l {
		name := p.bound(i)
		if name != "" && p.around(i)[0] == scope && !slices.Contains(names, name) {
			names = append(names, name)
		}
	}
	return names
}

// slotsAhead is how many slots there are ahead of a Comp's.
func (p *plainTree) slotsAhead(scope int) int {
	slots := 0
	for p.l[scope].Op == api.NComp {
		scope = p.around(scope)[0]
		if scope != len(p.l)-1 {
			slots += len(p.names(scope))
		}
	}
	return slots
}

func (p *plainTree) use(i int) resolve.Use {
	for _, scope := range p.around(i) {
		slot := slices.Index(p.names(scope), p.l[i].S)
		switch {
		case slot < 0:
		case scope == len(p.l)-1:
			return resolve.Use{Node: i, Scope: resolve.Global, Slot: slot}
		default:
			return resolve.Use{Node: i, Scope: resolve.Local, Slot: p.slotsAhead(scope) + slot}
		}
	}
	if slot := slices.Index(p.given, p.l[i].S); slot >= 0 {
		return resolve.Use{Node: i, Scope: resolve.Predeclared, Slot: slot}
	}
	return resolve.Use{}
}

func (p *plainTree) function(i int) resolve.Func {
	f := resolve.Func{Node: i, Names: p.names(i)}
	if p.l[i].Op == api.NDef {
		f.Params, f.Slots = len(p.l[i].Kids)-1, len(f.Names)
	}
	for comp := range p.l {
		if p.l[comp].Op != api.NComp {
			continue
		}
		around := p.around(comp)
		if at := slices.IndexFunc(around, func(scope int) bool { return p.l[scope].Op != api.NComp }); around[at] == i {
			f.Slots = max(f.Slots, p.slotsAhead(comp)+len(p.names(comp)))
		}
	}
	return f
}

// resolve is what Resolve has to answer for a valid tree.
func (p *plainTree) resolve() ([]resolve.Use, []resolve.Func, error) {
	var uses []resolve.Use
	for _, i := range nodesOf(p.l, api.NName) {
		use := p.use(i)
		if use.Scope == 0 {
			return nil, nil, &api.At{Pos: p.l[i].Pos, Err: api.ErrResolve}
		}
		uses = append(uses, use)
	}
	funcs := []resolve.Func{p.function(len(p.l) - 1)}
	for _, i := range nodesOf(p.l, api.NDef) {
		funcs = append(funcs, p.function(i))
	}
	return uses, funcs, nil
}
