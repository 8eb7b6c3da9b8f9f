package list_test

import (
	"slices"
	"testing"

	"smithy/list"
	"smithy/val"
)

// P0.4: lists that are handed out are new memory, spare room too.
func TestHandedOutIsNew(t *testing.T) {
	for _, text := range []string{"[1, 2, 3]", "(1, 2, 3)", "{1: 4, 2: 5, 3: 6}"} {
		v := said(t, text)
		for range 2 {
			first, _ := list.All(v)
			second, err := list.All(v)
			spoil(first)
			isList(t, "the other All", second, err, "[1, 2, 3]", nil)
			reads(t, "what it is of", v, text)
		}
	}
	r := rangeOf(t, 1, 4, 1)
	for range 2 {
		first, _ := list.All(r)
		second, err := list.All(r)
		spoil(first)
		isList(t, "a range's", second, err, "[1, 2, 3]", nil)
	}
	for _, l := range [][]val.Value{nil, items(t, "[1]"), items(t, "[1, 2, 3]")} {
		first, _ := list.Sorted(l, false)
		second, err := list.Sorted(l, false)
		want := val.Repr(val.NewList(l...))
		spoil(append(first, val.None()))
		isList(t, "the other Sorted", second, err, want, nil)
		isList(t, "what was sorted", l, nil, want, nil)
	}
	l := val.NewList(numbers(3)...)
	had, _ := list.All(l)
	isError(t, "Put", list.Put(l, n(0), val.None()), nil)
	isError(t, "Clear", list.Clear(l), nil)
	isList(t, "All", had, nil, "[0, 1, 2]", nil)
}

// roomy is a list with room behind it that has values in it.
func roomy(l ...val.Value) []val.Value {
	all := append(slices.Clone(l), numbers(4)...)
	return all[:len(l)]
}

// P0.4: lists that are handed in are neither changed nor kept, and what lies behind their length is not touched.
func TestGivenStays(t *testing.T) {
	given := roomy(integer(3), integer(1), integer(2))
	got, err := list.Sorted(given, false)
	isList(t, "Sorted", got, err, "[1, 2, 3]", nil)
	isList(t, "what was handed in", given[:7], nil, "[3, 1, 2, 0, 1, 2, 3]", nil)
	spoil(given)
	isList(t, "Sorted", got, nil, "[1, 2, 3]", nil)
	for _, had := range [][]val.Value{nil, numbers(1), numbers(9)} {
		given = roomy(integer(3), integer(1))
		l := val.NewList(had...)
		isError(t, "Extend", list.Extend(l, given...), nil)
		want := val.Repr(val.NewList(append(slices.Clone(had), integer(3), integer(1))...))
		isList(t, "what was handed in", given[:6], nil, "[3, 1, 0, 1, 2, 3]", nil)
		spoil(given)
		reads(t, "what was extended", l, want)
		isError(t, "Append", list.Append(l, val.None()), nil)
		isError(t, "Pop", pop(l, n(-1)), nil)
		reads(t, "what was extended", l, want)
	}
}

// P0.4: two Lists that were made of one show nothing of each other.
func TestApart(t *testing.T) {
	l := val.NewList(numbers(2)...)
	for range 5 {
		isError(t, "Append", list.Append(l, integer(9)), nil)
		isError(t, "Pop", pop(l, n(-1)), nil)
		first, _ := list.Slice(l, n(0), n(0), false, false)
		second, _ := list.Slice(l, n(0), n(0), false, false)
		a, b := first.(*val.List), second.(*val.List)
		isError(t, "Append", list.Append(a, integer(7)), nil)
		isError(t, "Append", list.Append(b, integer(8)), nil)
		isError(t, "Put", list.Put(b, n(0), integer(6)), nil)
		reads(t, "the first", a, "[0, 1, 7]")
		reads(t, "the second", b, "[6, 1, 8]")
		reads(t, "what they are of", l, "[0, 1]")
	}
}

// P0.4: a frozen List's Tuple stays, whatever becomes of slices of it.
func TestTupleStays(t *testing.T) {
	v := val.Tuple(numbers(3)...)
	got, err := list.Slice(v, n(0), n(2), false, true)
	isValue(t, "Slice", got, err, "(0, 1)", nil)
	all, _ := list.All(got)
	spoil(append(all, val.None()))
	reads(t, "the slice", got, "(0, 1)")
	reads(t, "the Tuple", v, "(0, 1, 2)")
}
