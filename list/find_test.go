package list_test

import (
	"fmt"
	"strings"
	"testing"

	"smithy/api"
	"smithy/list"
	"smithy/num"
	"smithy/val"
)

// isFound holds Index and In of a List and a Tuple of these items, and Remove, against where x has to be; below 0 nowhere.
func isFound(t *testing.T, what string, l []val.Value, x val.Value, want int, wantErr error) {
	t.Helper()
	indexErr := wantErr
	if want < 0 && wantErr == nil {
		indexErr = api.ErrDynamic
	}
	for _, v := range []val.Value{val.NewList(l...), val.Tuple(l...)} {
		before := val.Repr(v)
		at, err := list.Index(v, x)
		if at != max(0, want) || err != indexErr {
			t.Errorf("Index %s: %d %v, want %d %v", what, at, err, want, indexErr)
		}
		is, err := list.In(x, v)
		if is != (want >= 0 && wantErr == nil) || err != wantErr {
			t.Errorf("In %s: %v %v, want %d %v", what, is, err, want, wantErr)
		}
		reads(t, what, v, before)
	}
	removed := val.NewList(l...)
	if len(l) > api.MaxItems {
		return
	}
	isError(t, "Remove "+what, list.Remove(removed, x), indexErr)
	if left, _ := val.Len(removed); (left == len(l)) != (indexErr != nil) {
		t.Errorf("Remove %s: %d of %d", what, left, len(l))
	}
}

// P12.1: the first that is Equal, of each kind.
func TestFind(t *testing.T) {
	for _, c := range []struct {
		l, x string
		want int
	}{
		{"[1, 2, 3, 2]", "2", 1}, {"[1, 2, 3, 2]", "3", 2}, {"[1, 2]", "1", 0}, {"[1, 2]", "3", -1}, {"[]", "1", -1}, {"[]", "[]", -1},
		{"[True, 1]", "1", 1}, {"[1, True]", "True", 1}, {"[0, None, False]", "False", 2}, {"[0, False]", "None", -1},
		{`["b", "a"]`, `"a"`, 1}, {`["ab"]`, `"a"`, -1}, {`["1"]`, "1", -1}, {`["", []]`, "()", -1},
		{"[[1], [1, 2], (1, 2), [1, 2]]", "[1, 2]", 1}, {"[[1], [1, 2], (1, 2)]", "(1, 2)", 2}, {"[[[1]]]", "[1]", -1},
		{"[{}, {1: 2}, {1: 2, 3: 4}]", "{3: 4, 1: 2}", 2}, {"[{1: 2}]", "{1: 3}", -1}, {"[{1: 2}]", "1", -1},
	} {
		isFound(t, c.x+" in "+c.l, items(t, c.l), said(t, c.x), c.want, nil)
	}
	s := structOf(t, "a", val.NewList())
	isFound(t, "a Struct", []val.Value{structOf(t, "a", integer(1)), structOf(t, "b", val.NewList()), s}, structOf(t, "a", val.NewList()), 2, nil)
	f, g := above(api.VFunc), above(api.VFunc)
	isFound(t, "a function", []val.Value{&f, &g}, &g, 1, nil)
	isFound(t, "a range", []val.Value{rangeOf(t, 0, 3, 1), rangeOf(t, 0, 5, 2)}, rangeOf(t, 0, 6, 2), 1, nil)
}

// P12.1: Equal's errors, of those that are looked at.
func TestFindDeep(t *testing.T) {
	deep, x := nest(api.MaxDeep+1, integer(1)), nest(api.MaxDeep+1, integer(1))
	isFound(t, "too deep", []val.Value{deep}, x, 0, api.ErrLimit)
	isFound(t, "behind", []val.Value{x, integer(1)}, integer(1), 1, nil)
	isFound(t, "ahead", []val.Value{integer(1), deep}, integer(1), 0, nil)
	isFound(t, "too deep ahead of what would be equal", []val.Value{nest(api.MaxDeep+1, integer(2)), x}, x, 0, api.ErrLimit)
	isFound(t, "unlike above", []val.Value{val.Tuple(integer(1), deep), val.Tuple(integer(2), integer(1))}, val.Tuple(integer(2), deep), -1, nil)
	isFound(t, "as deep as may be", []val.Value{nest(api.MaxDeep, integer(1))}, nest(api.MaxDeep, integer(1)), 0, nil)
	loop, other := val.NewList(), val.NewList()
	isError(t, "Append", list.Append(loop, loop), nil)
	isError(t, "Append", list.Append(other, other), nil)
	isFound(t, "itself", []val.Value{loop}, loop, 0, api.ErrLimit)
	isFound(t, "another one", []val.Value{loop}, other, 0, api.ErrLimit)
	if is, err := list.In(loop, loop); is || err != api.ErrLimit {
		t.Error(is, err)
	}
}

// P12.1: 2^12 pairs are looked at in all, whatever they stand in.
func TestFindPairs(t *testing.T) {
	const most = 1 << 12
	x := val.Str("x")
	for _, count := range []int{most - 1, most, most + 1, 2 * most} {
		for _, at := range []int{0, 1, most - 2, most - 1, most, count - 1} {
			if at >= count {
				continue
			}
			l := numbers(count)
			l[at] = x
			want, err := at, error(nil)
			if at >= most {
				want, err = 0, api.ErrLimit
			}
			isFound(t, fmt.Sprintf("%d of %d", at, count), l, x, want, err)
		}
		want, err := -1, error(nil)
		if count > most {
			want, err = 0, api.ErrLimit
		}
		isFound(t, fmt.Sprint("none of ", count), numbers(count), x, want, err)
	}
	// Each item is a pair, and three within: 4 * 1023 are 4,092.
	row := func(k int) val.Value { return val.Tuple(integer(1), integer(2), integer(k)) }
	l := many(1023, row(3))
	isFound(t, "4,092", l, row(4), -1, nil)
	isFound(t, "4,096", append(l, row(4)), row(4), 1023, nil)
	isFound(t, "4,096 and none", append(l, row(5)), row(4), -1, nil)
	isFound(t, "4,096, the last that is looked at", append(l, integer(1), integer(1), integer(1), row(4)), row(4), 0, api.ErrLimit)
	isFound(t, "unlike lengths are a pair alone", append(l, val.Tuple(), val.NewList(), integer(1), integer(1)), row(4), -1, nil)
	isFound(t, "and one more", append(l, val.Tuple(), val.NewList(), integer(1), integer(1), integer(1)), row(4), 0, api.ErrLimit)
	// What was looked at ahead counts, however few the item has itself.
	wide := val.Tuple(numbers(2000)...)
	other := val.Tuple(append(numbers(1999), val.None())...)
	isFound(t, "once", []val.Value{other, integer(1), val.Tuple(numbers(2000)...)}, wide, 2, nil)
	isFound(t, "twice", []val.Value{other, other, wide}, wide, 0, api.ErrLimit)
	again := []val.Value{other, integer(1), wide}
	for range 3 {
		isFound(t, "each call for itself", again, wide, 2, nil)
	}
}

// P12.1: what is no List or Tuple has no Index.
func TestIndexNone(t *testing.T) {
	for i, v := range append(rowless(t), val.Str("a"), said(t, "{0: 1}"), rangeOf(t, 0, 3, 1)) {
		for _, x := range []val.Value{integer(0), val.Str("a"), val.NewList()} {
			if at, err := list.Index(v, x); at != 0 || err != api.ErrDynamic {
				t.Error(i, at, err)
			}
		}
	}
}

// P12.1: In of a Dict: its keys, by Key, with Key's errors.
func TestInDict(t *testing.T) {
	d := said(t, `{1: 2, "a": 3, (1, None): 4, None: 5}`).(*val.Dict)
	d.Set(integer(9), integer(9))
	d.Del(integer(9))
	for x, want := range map[string]bool{"1": true, "2": false, "True": false, `"a"`: true, `"b"`: false, "(1, None)": true, "(1,)": false, "None": true, "9": false, "()": false} {
		if is, err := list.In(said(t, x), d); is != want || err != nil {
			t.Error(x, is, err)
		}
	}
	for i, x := range []val.Value{said(t, "[]"), said(t, "{}"), said(t, "(1, [])"), structOf(t, ""), rangeOf(t, 0, 1, 1)} {
		for _, in := range []val.Value{d, val.NewDict()} {
			if is, err := list.In(x, in); is || err != api.ErrDynamic {
				t.Error(i, is, err)
			}
		}
	}
	if is, err := list.In(nest(api.MaxDeep+1, integer(1)), d); is || err != api.ErrLimit {
		t.Error(is, err)
	}
	wide := val.NewDict()
	for i := range 5000 {
		wide.Set(integer(i), integer(i))
	}
	if is, err := list.In(integer(4999), wide); !is || err != nil {
		t.Error(is, err)
	}
	val.Freeze(d)
	if is, err := list.In(integer(1), d); !is || err != nil {
		t.Error(is, err)
	}
}

// P12.1: In of a Str: whether a Str lies in it, by bytes.
func TestInStr(t *testing.T) {
	for _, c := range []struct {
		x, s string
		want bool
	}{
		{"", "", true}, {"", "a", true}, {"a", "", false}, {"a", "a", true}, {"bc", "abcd", true}, {"ac", "abcd", false}, {"abcd", "abc", false}, {"A", "a", false}, {"\xa4", "ä", true}, {"\x00", "a\x00", true}, {"aab", "aaab", true},
	} {
		if is, err := list.In(val.Str(c.x), val.Str(c.s)); is != c.want || err != nil {
			t.Errorf("%q in %q: %v %v", c.x, c.s, is, err)
		}
	}
	long := strings.Repeat("ab", 50000)
	if is, err := list.In(val.Str(long[1:]), val.Str(long)); !is || err != nil {
		t.Error(is, err)
	}
	for i, x := range append(rowless(t), said(t, "[]"), said(t, `["a"]`), said(t, "()"), said(t, "{}"), rangeOf(t, 0, 1, 1)) {
		if is, err := list.In(x, val.Str("a5")); is || err != api.ErrDynamic {
			t.Error(i, is, err)
		}
	}
}

// P12.1: In of a range: whether x is an Int among its items.
func TestInRange(t *testing.T) {
	for from := -4; from < 5; from++ {
		for to := -4; to < 5; to++ {
			for _, step := range []int{-9, -3, -2, -1, 1, 2, 3, 9} {
				has := plainRange(from, to, step)
				r := rangeOf(t, from, to, step)
				for x := -8; x < 9; x++ {
					is, err := list.In(integer(x), r)
					if is != has[x] || err != nil {
						t.Error(x, from, to, step, is, err)
					}
				}
			}
		}
	}
	r := rangeOf(t, 0, 2, 1)
	for i, x := range append(rowless(t)[:2], said(t, "False"), val.Str("0"), said(t, "[0]"), r, nil) {
		if is, err := list.In(x, r); is || err != nil {
			t.Error(i, is, err)
		}
	}
	long, err := list.Range(far(), far().Add(num.Of(3<<40)), n(3))
	if err != nil {
		t.Fatal(err)
	}
	last := far().Add(num.Of(3<<40 - 3))
	for i, c := range []struct {
		x    num.Num
		want bool
	}{{far(), true}, {far().Sub(n(3)), false}, {far().Add(n(1)), false}, {far().Add(n(3)), true}, {last, true}, {last.Add(n(3)), false}, {last.Sub(n(1)), false}, {far().Neg(), false}, {far().Mul(n(2)), false}, {n(0), false}} {
		if is, err := list.In(val.Int(c.x), long); is != c.want || err != nil {
			t.Error(i, is, err)
		}
	}
}

// plainRange is the items of a range.
func plainRange(from, to, step int) map[int]bool {
	has := map[int]bool{}
	for i := from; step > 0 && i < to || step < 0 && i > to; i += step {
		has[i] = true
	}
	return has
}

// P12.1: nothing is in what has nothing.
func TestInNone(t *testing.T) {
	for i, v := range rowless(t) {
		for _, x := range []val.Value{integer(0), val.Str("a"), val.NewList(), val.None()} {
			if is, err := list.In(x, v); is || err != api.ErrDynamic {
				t.Error(i, is, err)
			}
		}
	}
}
