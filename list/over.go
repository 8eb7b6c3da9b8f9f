package list

import (
	"smithy/api"
	"smithy/val"
)

// Over goes over the items of a value.
type Over struct {
	v  val.Value // nil: it has ended
	at int       // the place from which the next item is looked for
}

// Each goes over a List, Tuple, Dict (its keys) or range: a List or a Dict can't be changed till End.
func Each(v val.Value) (*Over, error) {
	if _, is := overSize(v); !is {
		return nil, api.ErrDynamic
	}
	val.Hold(v)
	return &Over{v: v}, nil
}

// overSize is the size of what can be gone over.
func overSize(v val.Value) (int, bool) {
	n, is := size(v)
	if !is || v.Kind() == api.VStr {
		return 0, false
	}
	return n, true
}

// Next is the next item, and whether there is one.
func (o *Over) Next() (val.Value, bool) {
	x, next, is := step(o.v, o.at)
	if is {
		o.at = next
	}
	return x, is
}

// step is the first item from that place on, and the place from which to go on.
func step(v val.Value, at int) (val.Value, int, bool) {
	r, is := v.(*span)
	if !is {
		return val.Step(v, at)
	}
	if at >= r.count {
		return nil, 0, false
	}
	return r.item(at), at + 1, true
}

// End ends it; what it went over can be changed again, if no other goes over it.
func (o *Over) End() {
	if o.v != nil {
		val.Free(o.v)
		o.v = nil
	}
}

// All is what Each goes over, at once.
func All(v val.Value) ([]val.Value, error) {
	n, is := overSize(v)
	if !is {
		return nil, api.ErrDynamic
	}
	if n > api.MaxItems {
		return nil, api.ErrLimit
	}
	return all(v)
}

func all(v val.Value) ([]val.Value, error) {
	if r, is := v.(*span); is {
		return r.items(0, r.count)
	}
	l, _ := val.Items(v)
	return l, nil
}
