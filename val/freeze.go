package val

// Freeze makes v, and all that it has, such that it can't be changed any more.
func Freeze(v Value) {
	f := freezer{seen: map[Value]struct{}{}}
	// What waits stands in a list, as values may stand deeper within one another than calls.
	for open := []Value{v}; len(open) > 0; {
		v := open[len(open)-1]
		open = append(open[:len(open)-1], f.freeze(v)...)
	}
}

// freezer knows what it has come to: a value may have another one in many places, and so on.
type freezer struct{ seen map[Value]struct{} }

// freeze is what v has that is to be frozen, too. A List or a Dict that is frozen has been gone through when it was, and has nothing new.
func (f freezer) freeze(v Value) []Value {
	switch x := v.(type) {
	case *List:
		if !x.frozen {
			x.frozen = true
			return x.items
		}
	case *Dict:
		if !x.frozen {
			x.frozen = true
			return x.values()
		}
	case *tuple:
		if f.first(x) {
			return x.items
		}
	case *record:
		if f.first(x) {
			return x.values
		}
	}
	return nil
}

// first tells whether it comes to v for the first time.
func (f freezer) first(v Value) bool {
	_, is := f.seen[v]
	f.seen[v] = struct{}{}
	return !is
}

// values is what a Dict has by its keys; the keys can't be changed.
func (d *Dict) values() []Value {
	values := make([]Value, 0, d.Len())
	for e := range d.each {
		values = append(values, e.value)
	}
	return values
}

// Frozen is whether v can't be changed: a List or a Dict that was not frozen can.
func Frozen(v Value) bool { return stays(v) }

func stays(v Value) bool {
	k := lockOf(v)
	return k == nil || k.frozen
}
