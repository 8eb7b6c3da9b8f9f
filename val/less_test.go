package val_test

import (
	"errors"
	"testing"

	"smithy/api"
	"smithy/num"
	"smithy/val"
)

// less holds an answer of Less against what it has to be.
func less(t *testing.T, what string, a, b val.Value, want bool, wantErr error) {
	t.Helper()
	if is, err := val.Less(a, b); is != want || err != wantErr {
		t.Errorf("%s: %v %v, want %v %v", what, is, err, want, wantErr)
	}
}

// rising is rows of values, each ahead of those behind it.
var rising = [][]string{
	{"False", "True"},
	{"-10", "-2", "-1", "0", "1", "2", "9", "10"},
	{`""`, `"\x00"`, `"A"`, `"B"`, `"a"`, `"a\x00"`, `"aa"`, `"ab"`, `"b"`, `"\x80"`, `"\xff"`},
	{"[]", "[False]", "[False, 1]", "[False, 2]", "[True]"},
	{"()", "(-1,)", "(-1, 0)", "(0,)", "(0, -5)", "(0, -5, 9)", "(0, 0)", "(1,)", "(10,)"},
	{`["a"]`, `["a", []]`, `["a", [0]]`, `["a", [0, 0]]`, `["a", [1]]`, `["a", [1], "a"]`, `["b", [0]]`},
	{"[()]", "[(1,)]", "[(1, [])]", "[(1, [1])]", "[(1, [1]), 1]", "[(1, [2])]", "[(2, [])]"},
	{"(None,)", "(None, 1)", "(None, 2)"},
	{"[{}, 1]", "[{}, 1, 1]", "[{}, 2]"},
	{"[{1: 2, 3: 4}, 1]", "[{3: 4, 1: 2}, 2]"},
}

// P10.5: Ints, Strs, Bools, Lists and Tuples have an order.
func TestLess(t *testing.T) {
	for _, row := range rising {
		for i, a := range row {
			for k, b := range row {
				less(t, a+" and "+b, said(t, a), said(t, b), i < k, nil)
			}
		}
	}
	big, _ := num.Parse("100000000000000000000")
	for _, wrap := range []func(v val.Value) val.Value{func(v val.Value) val.Value { return v }, inList, inTuple} {
		less(t, "great", wrap(val.Int(big)), wrap(val.Int(big.Add(num.Of(1)))), true, nil)
		less(t, "great", wrap(val.Int(big.Add(num.Of(1)))), wrap(val.Int(big)), false, nil)
		less(t, "great, below 0", wrap(val.Int(big.Neg())), wrap(integer(-5)), true, nil)
		less(t, "great", wrap(val.Int(big)), wrap(integer(5)), false, nil)
	}
}

// P10.5: what has no order: two kinds, and those kinds that have none.
func TestLessDynamic(t *testing.T) {
	s := structOf(t, "a", integer(1))
	ordered := map[int]bool{api.VBool: true, api.VInt: true, api.VStr: true, api.VList: true, api.VTuple: true}
	for _, a := range kinds(t) {
		for _, b := range kinds(t) {
			is, err := val.Less(a.value, b.value)
			fits := a.kind == b.kind && ordered[a.kind]
			if !fits && (is || err != api.ErrDynamic || !errors.Is(err, api.ErrDynamic)) {
				t.Errorf("%s and %s: %v %v", a.repr, b.repr, is, err)
			}
			if fits && a.kind < api.VList && err != nil {
				t.Errorf("%s and %s: %v %v", a.repr, b.repr, is, err)
			}
		}
	}
	for _, c := range [][2]string{
		{"[1]", "['a']"}, {"[1, None]", "[1, 1]"}, {"[1, None]", "[1, False]"}, {"[1]", "[True]"}, {"[{}]", "[{1: 2}]"}, {"[(1,)]", "[[1]]"}, {"[1, [2, {}]]", "[1, [2, {1: 1}]]"}, {"([1], None)", "([1], 0)"}, {"[None, 1]", "[0, 1]"},
	} {
		less(t, c[0]+" and "+c[1], said(t, c[0]), said(t, c[1]), false, api.ErrDynamic)
		less(t, c[1]+" and "+c[0], said(t, c[1]), said(t, c[0]), false, api.ErrDynamic)
	}
	less(t, "Structs in Lists", val.NewList(s, integer(1)), val.NewList(structOf(t, "a", integer(1)), integer(2)), true, nil)
	less(t, "unlike Structs in Lists", val.NewList(s), val.NewList(structOf(t, "a", integer(2))), false, api.ErrDynamic)
	// What stands behind the first items that are not equal is not looked at, and what is missing neither.
	less(t, "behind", said(t, "[1, None]"), said(t, "[2, 0]"), true, nil)
	less(t, "behind", said(t, "[2, None]"), said(t, "[1, 0]"), false, nil)
	less(t, "missing", said(t, "[1]"), said(t, "[1, None]"), true, nil)
	less(t, "missing", said(t, "[1, None]"), said(t, "[1]"), false, nil)
}

// P10.5: how deep what is looked at may be: Equal of items counts on from where Less is.
func TestLessDeep(t *testing.T) {
	one, two := integer(1), integer(2)
	for _, lay := range []func(v val.Value) val.Value{inList, inTuple} {
		at := func(n int, v val.Value) val.Value { return nest(n, v, lay) }
		less(t, "as deep as may be", at(api.MaxDeep, one), at(api.MaxDeep, two), true, nil)
		less(t, "as deep as may be", at(api.MaxDeep, two), at(api.MaxDeep, one), false, nil)
		less(t, "equal", at(api.MaxDeep, one), at(api.MaxDeep, one), false, nil)
		less(t, "one more", at(api.MaxDeep+1, one), at(api.MaxDeep+1, two), false, api.ErrLimit)
		less(t, "one more, equal", at(api.MaxDeep+1, one), at(api.MaxDeep+1, one), false, api.ErrLimit)
		less(t, "much more", at(5000, one), at(5000, two), false, api.ErrLimit)
		less(t, "empty", at(api.MaxDeep, lay(one)), at(api.MaxDeep, lay(two)), false, api.ErrLimit)
		less(t, "empty within one fewer", at(api.MaxDeep-1, val.Tuple()), at(api.MaxDeep-1, val.Tuple(one)), true, nil)
		less(t, "empty", at(api.MaxDeep, val.Tuple()), at(api.MaxDeep, val.Tuple()), false, api.ErrLimit)
		less(t, "empty and not", at(api.MaxDeep, val.Tuple()), at(api.MaxDeep, val.Tuple(one)), false, api.ErrLimit)
		less(t, "kinds", at(api.MaxDeep, one), at(api.MaxDeep, val.Str("")), false, api.ErrDynamic)
		less(t, "ahead of what is too deep", val.Tuple(one, at(api.MaxDeep, one)), val.Tuple(two, at(api.MaxDeep, one)), true, nil)
		less(t, "behind what is too deep", val.Tuple(at(api.MaxDeep, one), one), val.Tuple(at(api.MaxDeep, one), two), false, api.ErrLimit)
		less(t, "Dicts that are too deep in Equal", at(api.MaxDeep, said(t, "{}")), at(api.MaxDeep, said(t, "{}")), false, api.ErrLimit)
	}
	less(t, "no order, however deep", nest(5000, said(t, "{}"), func(v val.Value) val.Value { return dictOf(t, val.None(), v) }), said(t, "{}"), false, api.ErrDynamic)
	l, d := loop()
	less(t, "itself", l, l, false, api.ErrLimit)
	less(t, "itself", d, d, false, api.ErrDynamic)
	less(t, "ahead of what has itself", val.NewList(one, l), val.NewList(two, l), true, nil)
	less(t, "lengths are last", val.NewList(l), val.NewList(l, l), false, api.ErrLimit)
}

// P10.5: each pair that Less comes to, and those that Equal of items comes to, each as often as it is looked at: 2^12 in all.
func TestLessPairs(t *testing.T) {
	row := func(n int, last val.Value) []val.Value { return append(many(n, integer(1)), last) }
	zero, one, two := integer(0), integer(1), integer(2)
	for _, make := range []func(l ...val.Value) val.Value{func(l ...val.Value) val.Value { return val.NewList(l...) }, val.Tuple} {
		equalRow := func(n int) val.Value { return make(many(n, zero)...) }
		less(t, "1 and 4095", equalRow(4095), equalRow(4095), false, nil)
		less(t, "1 and 4096", equalRow(4096), equalRow(4096), false, api.ErrLimit)
		less(t, "1 and 4095, the shorter", equalRow(4095), equalRow(9000), true, nil)
		less(t, "1 and 4095, the longer", equalRow(9000), equalRow(4095), false, nil)
		less(t, "1 and 4096, the shorter", equalRow(4096), equalRow(9000), false, api.ErrLimit)
		// The outer pair, n items by Equal, the last one by Equal, and again by Less.
		less(t, "4096", make(row(4093, zero)...), make(row(4093, two)...), true, nil)
		less(t, "4097", make(row(4094, zero)...), make(row(4094, two)...), false, api.ErrLimit)
		less(t, "the first differs", make(append([]val.Value{zero}, many(9000, two)...)...), make(append([]val.Value{two}, many(9000, two)...)...), true, nil)
		// Equal goes through the item once, Less once more: 1, 1 and n + 1, 1 and n + 1, 1.
		less(t, "4096 in two rounds", make(make(row(2045, zero)...)), make(make(row(2045, two)...)), true, nil)
		less(t, "4098 in two rounds", make(make(row(2046, zero)...)), make(make(row(2046, two)...)), false, api.ErrLimit)
		less(t, "4097 in two rounds", make(one, make(row(2045, zero)...)), make(one, make(row(2045, two)...)), false, api.ErrLimit)
		less(t, "4096 in two rounds, an item ahead", make(one, one, make(row(2044, zero)...)), make(one, one, make(row(2044, two)...)), true, nil)
	}
	less(t, "twice", twice(11, zero), twice(11, zero), false, nil)
	less(t, "twice", twice(12, zero), twice(12, zero), false, api.ErrLimit)
	less(t, "twice, unlike", twice(10, zero), twice(10, two), true, nil)
	less(t, "no order at the last pair", val.NewList(row(4093, val.None())...), val.NewList(row(4093, zero)...), false, api.ErrDynamic)
}

// P10.5: of two that have an order at most one stands ahead, and one does just where they are not equal.
func TestLessAndEqual(t *testing.T) {
	for _, row := range rising {
		for _, a := range row {
			for _, b := range row {
				ahead, _ := val.Less(said(t, a), said(t, b))
				behind, _ := val.Less(said(t, b), said(t, a))
				same, err := val.Equal(said(t, a), said(t, b))
				if err != nil || same != (a == b) || same && (ahead || behind) || !same && ahead == behind {
					t.Errorf("%s and %s: %v %v %v %v", a, b, ahead, behind, same, err)
				}
			}
		}
	}
}
