package val

import (
	"slices"

	"smithy/api"
)

// Equal is whether a and b are of one kind and have the same in them: api.ErrLimit, if it comes to something too deep, or to too many pairs.
func Equal(a, b Value) (bool, error) {
	h := &held{}
	return h.equal(a, b, 0)
}

// First is the place of the first of l that is Equal to x, -1 if there is none: api.ErrLimit as Equal, where the pairs of all that it comes to count together.
func First(l []Value, x Value) (int, error) {
	h := &held{}
	for i, v := range l {
		is, err := h.equal(v, x, 0)
		if err != nil {
			return 0, err
		}
		if is {
			return i, nil
		}
	}
	return -1, nil
}

// held holds values against each other, and counts the pairs to which it comes.
type held struct{ pairs int }

// next counts one pair more.
func (h *held) next() error {
	if h.pairs++; h.pairs > most {
		return api.ErrLimit
	}
	return nil
}

// equal holds two values against each other that stand within so many others.
func (h *held) equal(a, b Value, within int) (bool, error) {
	if err := h.next(); err != nil {
		return false, err
	}
	switch x := a.(type) {
	case *List:
		if y, is := b.(*List); is {
			return h.rows(x.items, y.items, within)
		}
	case *tuple:
		if y, is := b.(*tuple); is {
			return h.rows(x.items, y.items, within)
		}
	case *Dict:
		if y, is := b.(*Dict); is {
			return h.dicts(x, y, within)
		}
	case *record:
		if y, is := b.(*record); is && slices.Equal(x.names, y.names) {
			return h.rows(x.values, y.values, within)
		}
	default:
		return alike(a, b), nil
	}
	return false, nil
}

// rows holds the items of two values against each other that stand within so many others.
func (h *held) rows(a, b []Value, within int) (bool, error) {
	if len(a) != len(b) {
		return false, nil
	}
	if within >= api.MaxDeep {
		return false, api.ErrLimit
	}
	for i := range a {
		if is, err := h.equal(a[i], b[i], within+1); !is {
			return false, err
		}
	}
	return true, nil
}

// dicts holds each value of a against that which b has by the same key.
func (h *held) dicts(a, b *Dict, within int) (bool, error) {
	if a.Len() != b.Len() {
		return false, nil
	}
	if within >= api.MaxDeep {
		return false, api.ErrLimit
	}
	for e := range a.each {
		v, is := b.at(e.mark)
		if !is {
			return false, nil
		}
		if is, err := h.equal(e.value, v, within+1); !is {
			return false, err
		}
	}
	return true, nil
}

// alike tells whether two values are the same that have no others in them.
func alike(a, b Value) bool {
	if x, is := a.(*whole); is {
		y, is := b.(*whole)
		return is && x.n.Cmp(y.n) == 0
	}
	if x, is := a.(likened); is {
		return x.Like(b)
	}
	return theSame(a, b)
}

// theSame tells whether a and b are one and the same. Layers above may have values that Go can't hold against each other: these are not.
func theSame(a, b Value) bool {
	defer func() { _ = recover() }()
	return a == b
}
