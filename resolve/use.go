package resolve

import (
	"smithy/api"
)

// finder goes through the scopes and finds what their Names mean.
type finder struct {
	nodes  []api.Node
	scopes []scope
	means  map[string][]Use // what a name means where the finder is, last, and outside of that, without their Nodes
	found  []Use            // of each node, if it is a Name that means something
}

// usesOf is what the Names mean, or the fault of the first one that means nothing.
func usesOf(l []api.Node, scopes []scope, predeclared []string) ([]Use, error) {
	f := &finder{nodes: l, scopes: scopes, means: make(map[string][]Use), found: make([]Use, len(l))}
	for slot, name := range predeclared {
		if len(f.means[name]) == 0 {
			f.means[name] = []Use{{Scope: Predeclared, Slot: slot}}
		}
	}
	f.findAll()
	var uses []Use
	for i := range l {
		if l[i].Op != api.NName {
			continue
		}
		if f.found[i].Scope == 0 {
			return nil, &api.At{Pos: l[i].Pos, Err: api.ErrResolve}
		}
		uses = append(uses, f.found[i])
	}
	return uses, nil
}

// findAll finds what each Name means. It keeps what is to be done itself: Comps may stand within one another deeper than calls.
func (f *finder) findAll() {
	work := []int{0} // the scopes to be entered; to be left: their complements
	for len(work) > 0 {
		number := work[len(work)-1]
		work = work[:len(work)-1]
		if number < 0 {
			f.leave(^number)
			continue
		}
		f.enter(number)
		f.find(f.scopes[number].users)
		work = append(append(work, ^number), f.scopes[number].inner...)
	}
}

// enter has the names that a scope binds mean that.
func (f *finder) enter(number int) {
	kind := Local
	if number == 0 {
		kind = Global
	}
	s := &f.scopes[number]
	for at, name := range s.names {
		f.means[name] = append(f.means[name], Use{Scope: kind, Slot: s.first + at})
	}
}

// leave has them mean what they did.
func (f *finder) leave(number int) {
	for _, name := range f.scopes[number].names {
		means := f.means[name]
		f.means[name] = means[:len(means)-1]
	}
}

// find finds what Names mean that stand where the finder is.
func (f *finder) find(users []int) {
	for _, i := range users {
		if means := f.means[f.nodes[i].S]; len(means) > 0 {
			f.found[i] = means[len(means)-1]
			f.found[i].Node = i
		}
	}
}
