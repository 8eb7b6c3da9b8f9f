package ast

import (
	"slices"

	"smithy/api"
)

// kin tells of each node whether it is a kid already.
type kin []bool

// take makes kids those of a node, and tells whether each of them lies ahead of it and was nobody's kid till then.
func (k kin) take(node int, kids []int) bool {
	for _, kid := range kids {
		if kid < 0 || kid >= node || k[kid] {
			return false
		}
		k[kid] = true
	}
	return true
}

// whole tells whether there is a last node, and all others are kids.
func (k kin) whole() bool {
	return len(k) > 0 && !slices.Contains(k[:len(k)-1], false)
}

// isTree tells whether nodes are a tree, whatever they say.
func isTree(l []api.Node) bool {
	taken := make(kin, len(l))
	for i := range l {
		if !taken.take(i, l[i].Kids) {
			return false
		}
	}
	return taken.whole()
}
