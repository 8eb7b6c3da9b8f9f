package val

import "smithy/api"

// Less is whether a stands ahead of b: api.ErrDynamic, if they have no order; api.ErrLimit as Equal.
func Less(a, b Value) (bool, error) {
	h := &held{}
	return h.less(a, b, 0)
}

// less holds two values against each other that stand within so many others.
func (h *held) less(a, b Value, within int) (bool, error) {
	if err := h.next(); err != nil {
		return false, err
	}
	switch x := a.(type) {
	case truth:
		if y, is := b.(truth); is {
			return !bool(x) && bool(y), nil
		}
	case *whole:
		if y, is := b.(*whole); is {
			return x.n.Cmp(y.n) < 0, nil
		}
	case text:
		if y, is := b.(text); is {
			return x < y, nil
		}
	case *List:
		if y, is := b.(*List); is {
			return h.ahead(x.items, y.items, within)
		}
	case *tuple:
		if y, is := b.(*tuple); is {
			return h.ahead(x.items, y.items, within)
		}
	}
	return false, api.ErrDynamic
}

// ahead is whether one row stands ahead of another, by the first items that are not equal, else by their lengths.
func (h *held) ahead(a, b []Value, within int) (bool, error) {
	if within >= api.MaxDeep {
		return false, api.ErrLimit
	}
	for i := range min(len(a), len(b)) {
		is, err := h.equal(a[i], b[i], within+1)
		if err != nil {
			return false, err
		}
		if !is {
			return h.less(a[i], b[i], within+1)
		}
	}
	return len(a) < len(b), nil
}
