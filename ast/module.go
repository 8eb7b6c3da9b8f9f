package ast

import (
	"smithy/api"
)

// within is what a node stands in.
type within struct {
	whole bool // in the whole Block, and in nothing else
	def   bool
	loop  bool // a For
}

// isModule tells whether a tree whose nodes have their forms is a Block, and all stands in it where it may.
func isModule(l []api.Node) bool {
	last := len(l) - 1
	if l[last].Op != api.NBlock {
		return false
	}
	// Backwards, as what a kid stands in is known from the node that has it.
	in := make([]within, len(l))
	for i := last; i >= 0; i-- {
		if !in[i].allows(l[i].Op) || l[i].Op == api.NDef && !paramsFit(l, l[i].Kids) {
			return false
		}
		next := in[i].inside(l[i].Op)
		next.whole = i == last
		for _, kid := range l[i].Kids {
			in[kid] = next
		}
	}
	return true
}

func (w within) allows(op int) bool {
	switch op {
	case api.NBreak, api.NContinue:
		return w.loop
	case api.NReturn:
		return w.def
	case api.NLoad, api.NDef:
		return w.whole
	}
	return true
}

// inside is what the kids of such a node stand in.
func (w within) inside(op int) within {
	switch op {
	case api.NFor:
		w.loop = true
	case api.NDef:
		w.def = true // and in no For, as it stands in the whole Block alone
	}
	return w
}

// paramsFit tells whether a Def's Params have unlike names, and none without a value stands behind one with.
func paramsFit(l []api.Node, kids []int) bool {
	params := kids[:len(kids)-1]
	var names []string
	given := false
	for _, kid := range params {
		has := len(l[kid].Kids) > 0
		if given && !has {
			return false
		}
		given = has
		names = append(names, l[kid].S)
	}
	return len(once(names)) == len(params)
}
