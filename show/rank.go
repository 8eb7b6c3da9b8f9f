package show

import (
	"smithy/api"
)

// The ranks, from what binds least.
const (
	ifRank = 1 + iota
	orRank
	andRank
	notRank
	compareRank
	sumRank
	productRank
	negRank
	primaryRank
)

// Rank is how much an expression's Op binds; 0 of what is no expression.
func Rank(op int) int {
	rank := 0
	switch op {
	case api.NNone, api.NTrue, api.NFalse, api.NInt, api.NStr, api.NName, api.NList, api.NTuple, api.NDict,
		api.NCall, api.NDot, api.NIndex, api.NSlice, api.NComp:
		rank++
		fallthrough
	case api.NNeg:
		rank++
		fallthrough
	case api.NMul, api.NDiv, api.NMod:
		rank++
		fallthrough
	case api.NAdd, api.NSub:
		rank++
		fallthrough
	case api.NEq, api.NNe, api.NLt, api.NLe, api.NGt, api.NGe, api.NIn, api.NNotIn:
		rank++
		fallthrough
	case api.NNot:
		rank++
		fallthrough
	case api.NAnd:
		rank++
		fallthrough
	case api.NOr:
		rank++
		fallthrough
	case api.NIf:
		rank++
	}
	return rank
}

// asks is the rank that a kid has to have to stand in that place of an Op without brackets. What goes from the left asks
// its own rank of its left kid, and one more of its right one.
func asks(op, place int) int {
	least, rank, left := ifRank, Rank(op), place == 0
	switch {
	case isHung(op) && left:
		least++
		fallthrough
	case rank == negRank, rank == productRank && !left:
		least++
		fallthrough
	case rank == productRank, rank == sumRank && !left:
		least++
		fallthrough
	case rank == sumRank, rank == compareRank:
		least += sumRank - notRank // no place asks for a compare: they do not stand in a row
		fallthrough
	case rank == notRank, rank == andRank && !left:
		least++
		fallthrough
	case rank == andRank, rank == orRank && !left:
		least++
		fallthrough
	case rank == orRank, rank == ifRank && place < 2, op == api.NComp && place > 1:
		least++
	}
	return least
}

// isHung tells whether the Op's text stands behind that of its first kid.
func isHung(op int) bool {
	switch op {
	case api.NCall, api.NIndex, api.NSlice, api.NDot:
		return true
	}
	return false
}

// needsBrackets tells whether a kid stands in brackets in that place of an Op. An Int with a Dot does, whatever its rank.
func needsBrackets(op, place, kid int) bool {
	return Rank(kid) < asks(op, place) || op == api.NDot && kid == api.NInt
}
