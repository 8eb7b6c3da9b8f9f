package val_test

import (
	"reflect"
	"slices"
	"testing"

	"smithy/api"
	"smithy/val"
)

// P0.4: what is handed in is not kept: a List, Tuple or Struct stays what it was, whatever becomes of the lists that it was made of.
func TestGivenNotKept(t *testing.T) {
	room := make([]val.Value, 3, 9)
	copy(room, numbers(3))
	names := append(make([]string, 0, 9), "b", "c", "a")
	list, tuple := val.NewList(room...), val.Tuple(room...)
	s, err := val.Struct(names, room...)
	if err != nil {
		t.Fatal(err)
	}
	if !slices.Equal(names, []string{"b", "c", "a"}) || val.Repr(val.NewList(room...)) != "[0, 1, 2]" {
		t.Error("what was handed in is changed:", names)
	}
	if !reflect.DeepEqual(room[3:9], make([]val.Value, 6)) || !slices.Equal(names[3:9], make([]string, 6)) {
		t.Error("spare room is written to:", room[3:9], names[3:9])
	}
	spoil(room, val.None())
	spoil(names, "spoilt")
	reads(t, list, "[0, 1, 2]")
	reads(t, tuple, "(0, 1, 2)")
	reads(t, s, "struct(a = 2, b = 0, c = 1)")
	if x, is := val.Field(s, "b"); !is || val.Repr(x) != "0" {
		t.Error(x, is)
	}
}

// P0.4: nodes that are handed in are neither changed nor kept.
func TestGivenNodes(t *testing.T) {
	const text = `{"a": [1, (2,), -3], (4, "b"): {None: ()}}`
	l := nodes(t, text)
	l = append(make([]api.Node, 0, len(l)+5), l...)
	before := slices.Clone(l)
	v, err := val.Of(l)
	if err != nil || !reflect.DeepEqual(l, before) || !reflect.DeepEqual(l[:cap(l)][len(l):], make([]api.Node, 5)) {
		t.Error("what was handed in is changed:", err)
	}
	for i := range l {
		spoil(l[i].Kids, 77)
	}
	spoil(l, api.Node{Op: api.NPass})
	reads(t, v, text)
}

// P0.4: lists that are handed out are new memory, spare room too: no value shows what is written into them, and no other list.
func TestHandedOutIsNew(t *testing.T) {
	for _, v := range []val.Value{said(t, "[1, 2, 3]"), said(t, "(1, 2, 3)"), said(t, "{1: 4, 2: 5, 3: 6}")} {
		before := val.Repr(v)
		for range 2 {
			first, _ := val.Items(v)
			second, _ := val.Items(v)
			spoil(first, val.None())
			if got := val.Repr(val.NewList(second...)); got != "[1, 2, 3]" {
				t.Error("another list:", got)
			}
			reads(t, v, before)
		}
	}
	s := structOf(t, "a b c", numbers(3)...)
	for range 2 {
		first, second := val.Fields(s), val.Fields(s)
		spoil(first, "spoilt")
		if !slices.Equal(second, []string{"a", "b", "c"}) {
			t.Error("another list:", second)
		}
		reads(t, s, "struct(a = 0, b = 1, c = 2)")
	}
	made := said(t, "{1: 4, 2: 5}").(*val.Dict)
	keys, _ := val.Items(made)
	made.Set(integer(3), integer(6))
	made.Del(integer(1))
	if got := val.Repr(val.NewList(keys...)); got != "[1, 2]" {
		t.Error("keys as they were:", got)
	}
}

// P0.4: nothing and an empty list are the same.
func TestNothing(t *testing.T) {
	empty := []val.Value{}
	equal(t, "Lists", val.NewList(), val.NewList(empty...), true, nil)
	equal(t, "Tuples", val.Tuple(), val.Tuple(empty...), true, nil)
	a, err := val.Struct(nil)
	b, other := val.Struct([]string{}, empty...)
	if err != nil || other != nil {
		t.Fatal(err, other)
	}
	equal(t, "Structs", a, b, true, nil)
	if v, err := val.Struct(nil, empty...); err != nil || len(val.Fields(v)) != 0 {
		t.Error(err)
	}
}
