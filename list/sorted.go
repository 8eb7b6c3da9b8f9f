package list

import (
	"slices"

	"smithy/api"
	"smithy/val"
)

// Sorted is l by val.Less, from the least on, or back: from the greatest on; those that are none less stay in order.
func Sorted(l []val.Value, back bool) ([]val.Value, error) {
	if val.Heavy(l) {
		return nil, api.ErrLimit
	}
	sorted, err := inOrder(l, back)
	if err != nil {
		return nil, api.ErrDynamic
	}
	return sorted, nil
}

// inOrder is each half of l in order by itself, and then both together.
func inOrder(l []val.Value, back bool) ([]val.Value, error) {
	if len(l) < 2 {
		return slices.Clone(l), nil
	}
	half := len(l) / 2
	left, err := inOrder(l[:half], back)
	if err != nil {
		return nil, err
	}
	right, err := inOrder(l[half:], back)
	if err != nil {
		return nil, err
	}
	return together(left, right, back)
}

// together is two lists, each in order, as one.
func together(left, right []val.Value, back bool) ([]val.Value, error) {
	l := make([]val.Value, 0, len(left)+len(right))
	for len(left) > 0 && len(right) > 0 {
		passes, err := ahead(right[0], left[0], back)
		if err != nil {
			return nil, err
		}
		if passes {
			l, right = append(l, right[0]), right[1:]
		} else {
			l, left = append(l, left[0]), left[1:]
		}
	}
	return append(append(l, left...), right...), nil
}

// ahead is whether a has to stand ahead of b.
func ahead(a, b val.Value, back bool) (bool, error) {
	if back {
		a, b = b, a
	}
	return val.Less(a, b)
}
