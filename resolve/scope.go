package resolve

import (
	"smithy/api"
)

// scope is what binds names: the whole, a Def or a Comp. The whole is number 0; each other one has a higher number than what it
// stands in.
type scope struct {
	node   int
	within int      // the scope that it stands in
	frame  int      // the scope of the Func that has its slots
	params int      // of a Def
	names  []string // that it binds, in order
	users  []int    // the Names that stand in it, and in no scope within it
	inner  []int    // the scopes that do
	first  int      // the slot of its first name; of the whole the number of its first global
	behind int      // the slot behind its last name; of the whole 0, as globals take none
	slots  int      // of the whole or a Def: with its Comps'
}

// place is where a node stands.
type place struct {
	scope int
	binds bool // the scope binds what the node, or a Tuple's kid, names
}

// binding is a name in a scope.
type binding struct {
	scope int
	name  string
}

// binder finds the scopes of a tree, and what they bind.
type binder struct {
	nodes  []api.Node
	places []place
	scopes []scope
	bound  map[binding]struct{}
}

// scopesOf is the scopes of a valid tree.
func scopesOf(l []api.Node) []scope {
	last := len(l) - 1
	b := &binder{nodes: l, places: make([]place, len(l)), scopes: []scope{{node: last}}, bound: make(map[binding]struct{})}
	// Backwards, as where a kid stands is known from the node that has it.
	for i := last; i >= 0; i-- {
		b.settle(i)
	}
	for i := range l {
		b.bindNode(i)
	}
	b.laySlots()
	return b.scopes
}

// settle tells the kids of node i where they stand.
func (b *binder) settle(i int) {
	node, here := b.nodes[i], b.places[i].scope
	switch node.Op {
	case api.NName:
		b.scopes[here].users = append(b.scopes[here].users, i)
	case api.NTuple:
		b.put(node.Kids, b.places[i])
	case api.NAssign, api.NAddTo, api.NFor:
		b.put(node.Kids, place{scope: here})
		b.put(node.Kids[:1], place{scope: here, binds: true})
	case api.NLoad:
		b.put(node.Kids, place{scope: here, binds: true})
	case api.NComp:
		b.settleComp(i)
	case api.NDef:
		b.settleDef(i)
	default:
		b.put(node.Kids, place{scope: here})
	}
}

func (b *binder) put(kids []int, at place) {
	for _, kid := range kids {
		b.places[kid] = at
	}
}

func (b *binder) settleComp(i int) {
	kids, here := b.nodes[i].Kids, b.places[i].scope
	inside := b.open(i, here)
	b.scopes[inside].frame = b.scopes[here].frame
	b.put(kids, place{scope: inside})
	b.put(kids[1:2], place{scope: inside, binds: true})
	b.put(kids[2:3], place{scope: here})
}

func (b *binder) settleDef(i int) {
	kids, here := b.nodes[i].Kids, b.places[i].scope
	last := len(kids) - 1
	inside := b.open(i, here)
	b.scopes[inside].frame = inside
	b.scopes[inside].params = last
	b.places[i].binds = true
	b.put(kids[:last], place{scope: here})
	b.put(kids[last:], place{scope: inside})
	// At once: its Params are ahead of all else that it binds, and in their own order.
	for _, param := range kids[:last] {
		b.bind(inside, b.nodes[param].S)
	}
}

// open is the number of a new scope, that of node i.
func (b *binder) open(i, within int) int {
	number := len(b.scopes)
	b.scopes = append(b.scopes, scope{node: i, within: within})
	b.scopes[within].inner = append(b.scopes[within].inner, number)
	return number
}

// bindNode binds what node i names, if it stands where it binds that.
func (b *binder) bindNode(i int) {
	at := b.places[i]
	switch b.nodes[i].Op {
	case api.NName, api.NParam, api.NDef:
		if at.binds {
			b.bind(at.scope, b.nodes[i].S)
		}
	}
}

// bind has a scope bind a name, once.
func (b *binder) bind(number int, name string) {
	key := binding{number, name}
	if _, is := b.bound[key]; is {
		return
	}
	b.bound[key] = struct{}{}
	b.scopes[number].names = append(b.scopes[number].names, name)
}

// laySlots gives each scope its slots, behind those of what it stands in.
func (b *binder) laySlots() {
	for number := 1; number < len(b.scopes); number++ {
		s := &b.scopes[number]
		s.first = b.scopes[s.within].behind
		s.behind = s.first + len(s.names)
		frame := &b.scopes[s.frame]
		frame.slots = max(frame.slots, s.behind)
	}
}
