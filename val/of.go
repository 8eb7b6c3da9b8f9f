package val

import (
	"errors"
	"slices"

	"smithy/api"
	"smithy/ast"
	"smithy/num"
)

// Of is the value that an expression says by itself: api.ErrShape, if it is none, or has a node that has to be worked out; of a Dict's keys Key's error, and api.ErrDynamic, if one is there twice.
func Of(l []api.Node) (Value, error) {
	// Whoever asks for a value has no use for the place that is wrapped around it, nor for how many nodes are too many.
	if err := ast.Valid(asFile(l)); errors.Is(err, api.ErrShape) || errors.Is(err, api.ErrMany) {
		return nil, api.ErrShape
	}
	said := make([]Value, len(l))
	for _, i := range kidsFirst(l) {
		v, err := says(l, i, said)
		if err != nil {
			return nil, err
		}
		said[i] = v
	}
	return said[len(l)-1], nil
}

// asFile is the nodes of a file that has the expression alone.
func asFile(l []api.Node) []api.Node {
	return slices.Concat(l, []api.Node{
		{Op: api.NExpr, Kids: []int{len(l) - 1}},
		{Op: api.NBlock, Kids: []int{len(l)}},
	})
}

// kidsFirst is the places of a tree's nodes, each behind its kids, and these from the left.
func kidsFirst(l []api.Node) []int {
	// Each ahead of its kids, and these from the right, is the same from its end on.
	order := make([]int, 0, len(l))
	open := []int{len(l) - 1}
	for len(open) > 0 {
		i := open[len(open)-1]
		open = append(open[:len(open)-1], l[i].Kids...)
		order = append(order, i)
	}
	slices.Reverse(order)
	return order
}

// says is the value of node i, where it is known what its kids say.
func says(l []api.Node, i int, said []Value) (Value, error) {
	node := l[i]
	switch node.Op {
	case api.NNone:
		return None(), nil
	case api.NTrue, api.NFalse:
		return Bool(node.Op == api.NTrue), nil
	case api.NInt:
		n, _ := num.Parse(node.S) // as it is an expression's, these are digits of a number
		return Int(n), nil
	case api.NStr:
		return Str(node.S), nil
	case api.NNeg:
		if of := l[node.Kids[0]]; of.Op == api.NInt {
			n, _ := number(said[node.Kids[0]])
			return Int(n.Neg()), nil
		}
	case api.NList:
		return &List{items: those(said, node.Kids)}, nil
	case api.NTuple:
		return &tuple{items: those(said, node.Kids)}, nil
	case api.NDict:
		return paired(those(said, node.Kids))
	}
	return nil, api.ErrShape
}

// those is the values of the kids, in order.
func those(said []Value, kids []int) []Value {
	l := make([]Value, len(kids))
	for at, kid := range kids {
		l[at] = said[kid]
	}
	return l
}

// paired is the Dict of what is key, value, key, value ..
func paired(l []Value) (Value, error) {
	d := NewDict()
	for i := 0; i < len(l); i += 2 {
		if err := d.Set(l[i], l[i+1]); err != nil {
			return nil, err
		}
		if d.Len() <= i/2 { // the key was there already
			return nil, api.ErrDynamic
		}
	}
	return d, nil
}
