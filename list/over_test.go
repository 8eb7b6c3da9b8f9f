package list_test

import (
	"fmt"
	"sync"
	"testing"

	"smithy/api"
	"smithy/list"
	"smithy/val"
)

// P12.2: what Each and All go over, of each kind.
func TestEach(t *testing.T) {
	for _, c := range []struct{ value, want string }{
		{"[]", "[]"}, {"[1]", "[1]"}, {`[3, [1], "a", 3]`, `[3, [1], "a", 3]`}, {"()", "[]"}, {"(1, (2,), 1)", "[1, (2,), 1]"}, {"{}", "[]"}, {`{2: 1, "a": [], (3,): 2}`, `[2, "a", (3,)]`},
	} {
		v := said(t, c.value)
		for range 2 {
			isList(t, c.value, eachOf(t, v), nil, c.want, nil)
			got, err := list.All(v)
			isList(t, c.value, got, err, c.want, nil)
		}
		val.Freeze(v)
		isList(t, c.value, eachOf(t, v), nil, c.want, nil)
	}
	in := val.NewList()
	for _, v := range []val.Value{val.NewList(in), val.Tuple(in)} {
		if l := eachOf(t, v); len(l) != 1 || l[0] != val.Value(in) {
			t.Error("not the item itself")
		}
	}
}

// P12.2: the keys of a Dict as they are, whatever was taken out ahead.
func TestEachDict(t *testing.T) {
	d := val.NewDict()
	for i := range 20 {
		isError(t, "Set", d.Set(integer(i), val.None()), nil)
	}
	for i, take := range []int{0, 19, 5, 6, 7, 1, 18, 2, 3, 4, 8, 9, 10, 11, 12, 13, 14, 15, 16, 17} {
		before := eachOf(t, d)
		if len(before) != 20-i {
			t.Error(len(before), 20-i)
		}
		if _, is, err := d.Del(integer(take)); !is || err != nil {
			t.Fatal(is, err)
		}
		keys, _ := val.Items(d)
		isList(t, fmt.Sprint("without ", take), eachOf(t, d), nil, val.Repr(val.NewList(keys...)), nil)
	}
	isError(t, "Set", d.Set(integer(7), val.None()), nil)
	isError(t, "Set", d.Set(integer(0), val.None()), nil)
	isList(t, "anew", eachOf(t, d), nil, "[7, 0]", nil)
}

// P12.2: what can't be gone over.
func TestEachNone(t *testing.T) {
	for i, v := range append(rowless(t), val.Str(""), val.Str("abc")) {
		if o, err := list.Each(v); o != nil || err != api.ErrDynamic {
			t.Error("Each of", i, o, err)
		}
		got, err := list.All(v)
		isList(t, fmt.Sprint("All of ", i), got, err, "", api.ErrDynamic)
	}
}

// P12.2: All of more than MaxItems; Each of any number.
func TestAllLimit(t *testing.T) {
	for _, count := range []int{api.MaxItems - 1, api.MaxItems, api.MaxItems + 1, 5000} {
		d := val.NewDict()
		for i := range count {
			isError(t, "Set", d.Set(integer(i), val.None()), nil)
		}
		for _, v := range []val.Value{val.NewList(numbers(count)...), val.Tuple(numbers(count)...), d, rangeOf(t, 0, count, 1), rangeOf(t, count, 0, -1)} {
			got, err := list.All(v)
			what := fmt.Sprint(val.Type(v), " of ", count)
			if count > api.MaxItems {
				isList(t, what, got, err, "", api.ErrLimit)
			} else if len(got) != count || err != nil {
				t.Error(what, len(got), err)
			}
			if l := eachOf(t, v); len(l) != count {
				t.Error(what, len(l))
			}
		}
	}
	got, err := list.All(rangeOf(t, 0, 1<<40, 1))
	isList(t, "a long range", got, err, "", api.ErrLimit)
	o, err := list.Each(rangeOf(t, 0, 1<<40, 3))
	if err != nil {
		t.Fatal(err)
	}
	for i := range 5000 {
		if x, is := o.Next(); !is || val.Repr(x) != fmt.Sprint(3*i) {
			t.Fatal(i, is)
		}
	}
	o.End()
	if x, is := o.Next(); x != nil || is {
		t.Error("ended:", x)
	}
}

// isShut holds a List and a Dict against whether they can be changed just now.
func isShut(t *testing.T, what string, l *val.List, d *val.Dict, want error) {
	t.Helper()
	before, dict := val.Repr(l), val.Repr(d)
	isError(t, what+": Append", list.Append(l, val.None()), want)
	if want == nil {
		isError(t, what+": Pop", pop(l, n(-1)), nil)
	}
	isError(t, what+": Put", list.Put(l, n(0), integer(0)), want)
	isError(t, what+": Set", d.Set(integer(0), integer(0)), want)
	isError(t, what+": Set of a new one", d.Set(integer(77), integer(0)), want)
	if v, is, err := d.Del(integer(77)); is != (want == nil) || err != want || (v == nil) != (want != nil) {
		t.Errorf("%s: Del: %v %v", what, is, err)
	}
	if v, is, err := d.Del(integer(78)); v != nil || is || err != want {
		t.Errorf("%s: Del of none: %v %v", what, is, err)
	}
	reads(t, what, l, before)
	reads(t, what, d, dict)
	if v, is, err := d.Get(integer(0)); v == nil || !is || err != nil {
		t.Errorf("%s: Get: %v %v", what, is, err)
	}
	isError(t, what+": a key that can't be one", d.Set(val.NewList(), integer(0)), api.ErrDynamic)
	isError(t, what+": a key that is too deep", d.Set(nest(api.MaxDeep+1, integer(0)), integer(0)), api.ErrLimit)
}

// P12.2, P10.2: what is gone over can't be changed from Each till End, wherever Next has come to.
func TestShut(t *testing.T) {
	l, d := val.NewList(numbers(2)...), val.NewDict()
	for i := range 2 {
		isError(t, "Set", d.Set(integer(i), integer(0)), nil)
	}
	isShut(t, "at first", l, d, nil)
	over, keys := each(t, l), each(t, d)
	isShut(t, "ahead of Next", l, d, api.ErrDynamic)
	for i := range 4 {
		x, is := over.Next()
		key, other := keys.Next()
		if is != (i < 2) || other != is {
			t.Error(i, is, other)
		}
		if is {
			reads(t, "an item", x, fmt.Sprint(i))
			reads(t, "a key", key, fmt.Sprint(i))
		}
		isShut(t, fmt.Sprint("Next ", i), l, d, api.ErrDynamic)
	}
	over.End()
	keys.End()
	isShut(t, "ended", l, d, nil)
}

// each is what goes over a value that can be gone over.
func each(t testing.TB, v val.Value) *list.Over {
	t.Helper()
	o, err := list.Each(v)
	if err != nil || o == nil {
		t.Fatal(err)
	}
	return o
}

// P12.2: End ahead of the end: there is no next one any more.
func TestEndEarly(t *testing.T) {
	for _, text := range []string{"[1, 2, 3]", "(1, 2, 3)", "{1: 4, 2: 5, 3: 6}"} {
		for took := range 4 {
			o := each(t, said(t, text))
			for i := range took {
				if x, is := o.Next(); !is || val.Repr(x) != fmt.Sprint(i+1) {
					t.Error(text, i, is)
				}
			}
			for range 2 {
				o.End()
				if x, is := o.Next(); x != nil || is {
					t.Error(text, took, "ended:", x)
				}
			}
		}
	}
}

// P12.3: several at once, each for itself; it can be changed when all have ended, in whatever order; End twice counts once.
func TestSeveral(t *testing.T) {
	l, d := val.NewList(numbers(3)...), val.NewDict()
	for i := range 3 {
		isError(t, "Set", d.Set(integer(i), integer(0)), nil)
	}
	for _, order := range [][]int{{0, 1, 2}, {2, 1, 0}, {1, 2, 0}, {0, 0, 0, 1, 1, 1, 0, 2}, {2, 2, 0, 2, 0, 1}} {
		var lists, dicts []*list.Over
		for range 3 {
			lists, dicts = append(lists, each(t, l)), append(dicts, each(t, d))
		}
		for i := range 3 {
			for range i {
				lists[i].Next()
				dicts[i].Next()
			}
		}
		for i := range 3 {
			x, is := lists[i].Next()
			key, other := dicts[i].Next()
			if !is || !other || val.Repr(x) != fmt.Sprint(i) || val.Repr(key) != fmt.Sprint(i) {
				t.Error(i, is, other)
			}
		}
		ended := map[int]struct{}{}
		for _, i := range order {
			isShut(t, fmt.Sprint(order), l, d, api.ErrDynamic)
			lists[i].End()
			dicts[i].End()
			ended[i] = struct{}{}
		}
		if len(ended) < 3 {
			t.Error("not all:", order)
		}
		isShut(t, fmt.Sprint(order, " ended"), l, d, nil)
		lists[0].End()
		dicts[0].End()
		again, keys := each(t, l), each(t, d)
		lists[1].End()
		dicts[1].End()
		isShut(t, "again", l, d, api.ErrDynamic)
		again.End()
		keys.End()
	}
}

// P12.2: it alone is gone over: not what it has, nor what has it.
func TestShutAlone(t *testing.T) {
	in, dict := val.NewList(integer(0)), said(t, "{0: 0}").(*val.Dict)
	l := val.NewList(in, dict)
	out := val.NewList(l)
	o := each(t, l)
	isShut(t, "within", in, dict, nil)
	isError(t, "around", list.Append(out, integer(1)), nil)
	isError(t, "itself", list.Append(l, integer(1)), api.ErrDynamic)
	o.End()
	tuple := each(t, val.Tuple(in, dict))
	isShut(t, "within a Tuple", in, dict, nil)
	tuple.End()
	first, second := val.NewList(integer(0)), val.NewList(integer(0))
	other := each(t, first)
	isShut(t, "one that is equal", second, dict, nil)
	other.End()
}

// P12.2, P10.6: what is frozen can be gone over, and stays frozen; what is gone over can be frozen.
func TestShutFrozen(t *testing.T) {
	l, d := val.NewList(numbers(2)...), said(t, "{0: 0, 1: 0}").(*val.Dict)
	over, keys := each(t, l), each(t, d)
	if val.Frozen(l) || val.Frozen(d) {
		t.Error("what is gone over is not frozen")
	}
	over.Next()
	keys.Next()
	val.Freeze(val.Tuple(l, d))
	if x, is := over.Next(); !is || val.Repr(x) != "1" {
		t.Error(is)
	}
	if x, is := keys.Next(); !is || val.Repr(x) != "1" {
		t.Error(is)
	}
	for range 2 {
		over.End()
		keys.End()
		isShut(t, "frozen", l, d, api.ErrDynamic)
	}
	isList(t, "frozen", eachOf(t, l), nil, "[0, 1]", nil)
	isList(t, "frozen", eachOf(t, d), nil, "[0, 1]", nil)
	isShut(t, "frozen", l, d, api.ErrDynamic)
	if !val.Frozen(l) || !val.Frozen(d) {
		t.Error("not frozen")
	}
}

// P12.2: what only looks at it may be called on what is gone over, and leaves it so.
func TestShutLooks(t *testing.T) {
	l := val.NewList(numbers(3)...)
	o := each(t, l)
	if at, err := list.Index(l, integer(2)); at != 2 || err != nil {
		t.Error(at, err)
	}
	if is, err := list.In(integer(3), l); is || err != nil {
		t.Error(is, err)
	}
	got, err := list.All(l)
	isList(t, "All", got, err, "[0, 1, 2]", nil)
	isError(t, "Append", list.Append(l, l), api.ErrDynamic)
	o.End()
	got, err = list.All(l)
	isList(t, "All", got, err, "[0, 1, 2]", nil)
	isError(t, "All holds nothing", list.Append(l, integer(3)), nil)
}

// P12.3, P0.5: what is frozen may be gone over by several goroutines at once.
func TestAtOnce(t *testing.T) {
	l, d := val.NewList(numbers(9)...), val.NewDict()
	for i := range 9 {
		isError(t, "Set", d.Set(integer(i), integer(0)), nil)
	}
	left := each(t, l)
	val.Freeze(val.Tuple(l, d))
	var all sync.WaitGroup
	for range 8 {
		all.Go(func() {
			for range 50 {
				if len(eachOf(t, l)) != 9 || len(eachOf(t, d)) != 9 {
					t.Error("not all")
				}
				if list.Append(l, integer(1)) != api.ErrDynamic {
					t.Error("changed")
				}
			}
		})
	}
	all.Wait()
	left.End()
	isShut(t, "frozen", l, d, api.ErrDynamic)
}
