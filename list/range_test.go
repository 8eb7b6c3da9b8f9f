package list_test

import (
	"fmt"
	"slices"
	"testing"

	"smithy/api"
	"smithy/list"
	"smithy/num"
	"smithy/val"
)

// plainItems is the items of a range, in order.
func plainItems(from, to, step int) []int {
	var l []int
	for i := from; step > 0 && i < to || step < 0 && i > to; i += step {
		l = append(l, i)
	}
	return l
}

// ints is the Repr of a list of these.
func ints(l []int) string {
	var all []val.Value
	for _, i := range l {
		all = append(all, integer(i))
	}
	return val.Repr(val.NewList(all...))
}

// small are the steps of small ranges.
func small() []int { return []int{-9, -4, -3, -2, -1, 1, 2, 3, 4, 9} }

// P12.2: the items of small ranges: all at once, one by one, by their places, and sliced.
func TestRange(t *testing.T) {
	for from := -5; from < 6; from++ {
		for to := -5; to < 6; to++ {
			for _, step := range small() {
				want := plainItems(from, to, step)
				r := rangeOf(t, from, to, step)
				what := fmt.Sprint(from, to, step)
				got, err := list.All(r)
				isList(t, "All "+what, got, err, ints(want), nil)
				isList(t, "Each "+what, eachOf(t, r), nil, ints(want), nil)
				v, err := list.Slice(r, n(0), n(0), false, false)
				isValue(t, "Slice "+what, v, err, ints(want), nil)
				for i := range want {
					v, err := list.At(r, n(i))
					isValue(t, "At "+what, v, err, fmt.Sprint(want[i]), nil)
				}
				v, err = list.At(r, n(len(want)))
				isValue(t, "At "+what, v, err, "", api.ErrDynamic)
				if r.Kind() != api.VRange || val.Type(r) != "range" || val.Truth(r) != (len(want) > 0) {
					t.Error(what, r.Kind(), val.Type(r), val.Truth(r))
				}
			}
		}
	}
}

// eachOf is what goes over v, till its end.
func eachOf(t testing.TB, v val.Value) []val.Value {
	t.Helper()
	o, err := list.Each(v)
	if err != nil {
		t.Fatal(err)
	}
	defer o.End()
	var l []val.Value
	for {
		x, is := o.Next()
		if !is {
			break
		}
		l = append(l, x)
	}
	for range 3 {
		if x, is := o.Next(); x != nil || is {
			t.Error("behind its end:", x)
		}
	}
	return l
}

// P12.2: a step of 0; more than 2^40 items, by bounds and steps of any size.
func TestRangeErrors(t *testing.T) {
	most := num.Of(1 << 40)
	for i, c := range []struct {
		from, to, step num.Num
		want           error
	}{
		{n(0), n(0), n(0), api.ErrDynamic}, {n(0), n(5), n(0), api.ErrDynamic}, {n(5), n(0), num.Num{}, api.ErrDynamic}, {n(0), far(), n(0), api.ErrDynamic},
		{n(0), most, n(1), nil}, {n(0), most.Add(n(1)), n(1), api.ErrLimit}, {n(-1), most, n(1), api.ErrLimit}, {n(-1), most.Sub(n(1)), n(1), nil},
		{n(0), most.Neg(), n(-1), nil}, {n(0), most.Neg().Sub(n(1)), n(-1), api.ErrLimit}, {n(1), most.Neg(), n(-1), api.ErrLimit},
		{n(0), most.Mul(n(3)), n(3), nil}, {n(0), most.Mul(n(3)).Sub(n(2)), n(3), nil}, {n(0), most.Mul(n(3)).Add(n(1)), n(3), api.ErrLimit},
		{n(0), most.Mul(n(-3)), n(-3), nil}, {n(0), most.Mul(n(-3)).Add(n(2)), n(-3), nil}, {n(0), most.Mul(n(-3)).Sub(n(1)), n(-3), api.ErrLimit},
		{n(0), far(), n(1), api.ErrLimit}, {far(), n(0), n(-1), api.ErrLimit}, {n(0), far(), n(-1), nil}, {far(), n(0), n(1), nil}, {far(), far(), n(1), nil}, {far(), far().Add(most), n(1), nil}, {far(), far().Add(most).Add(n(1)), n(1), api.ErrLimit},
		{far().Neg(), far(), far(), nil}, {n(0), most.Mul(far()), far(), nil}, {n(0), most.Mul(far()).Add(n(1)), far(), api.ErrLimit}, {n(0), n(1 << 62), n(1), api.ErrLimit}, {num.Of(-1 << 63), num.Of(1<<63 - 1), n(1), api.ErrLimit},
	} {
		v, err := list.Range(c.from, c.to, c.step)
		if err != c.want || (v == nil) != (c.want != nil) {
			t.Error(i, v, err)
		}
	}
	v, err := list.Range(far().Neg(), far().Add(n(1)), far())
	isValue(t, "far", v, err, "range("+far().Neg().Text()+", "+far().Add(n(1)).Text()+", "+far().Text()+")", nil)
	all, err := list.All(v)
	isList(t, "far", all, err, "["+far().Neg().Text()+", 0, "+far().Text()+"]", nil)
}

// P10.4: how a range reads: as it was made, its step where that isn't 1.
func TestRangeRepr(t *testing.T) {
	for _, c := range []struct {
		from, to, step int
		want           string
	}{{0, 3, 1, "range(0, 3)"}, {-2, -7, 1, "range(-2, -7)"}, {0, 3, 2, "range(0, 3, 2)"}, {3, 0, -1, "range(3, 0, -1)"}, {0, 0, 5, "range(0, 0, 5)"}, {1, 2, 9, "range(1, 2, 9)"}} {
		r := rangeOf(t, c.from, c.to, c.step)
		reads(t, "Repr", r, c.want)
		if got := val.Text(r); got != c.want {
			t.Error(got, c.want)
		}
		reads(t, "in a List", val.NewList(r, r), "["+c.want+", "+c.want+"]")
		reads(t, "in a Struct", structOf(t, "a", val.Tuple(r)), "struct(a = ("+c.want+",))")
	}
	deep := nest(api.MaxDeep, rangeOf(t, 0, 1, 1))
	if got := val.Repr(deep); len(got) != 3*api.MaxDeep+len("range(0, 1)") {
		t.Error("as deep as may be:", got)
	}
	long := n(7)
	for range 14 {
		long = long.Mul(long)
	}
	for range 5 {
		long = long.Mul(long)
	}
	r, err := list.Range(long, long, long)
	if err != nil {
		t.Fatal(err)
	}
	if got, whole := val.Repr(r), "range("+long.Text()+", "; len(whole) < api.MaxText || got != whole[:api.MaxText] {
		t.Error("a long one:", len(whole), len(got))
	}
}

// P10.5: ranges are equal that have the same items.
func TestRangeEqual(t *testing.T) {
	var all []val.Value
	var has [][]int
	for from := -2; from < 3; from++ {
		for to := -3; to < 4; to++ {
			for _, step := range []int{-3, -2, -1, 1, 2, 3} {
				all = append(all, rangeOf(t, from, to, step))
				has = append(has, plainItems(from, to, step))
			}
		}
	}
	for i, a := range all {
		for k, b := range all {
			if is, err := val.Equal(a, b); is != slices.Equal(has[i], has[k]) || err != nil {
				t.Error(val.Repr(a), val.Repr(b), is, err)
			}
			if is, err := val.Less(a, b); is || err != api.ErrDynamic {
				t.Error(val.Repr(a), val.Repr(b), is, err)
			}
		}
		for _, b := range append(rowless(t)[:6], said(t, "[]"), said(t, "()"), said(t, "{}"), val.NewList(numbers(len(has[i]))...), val.Str("")) {
			there, err := val.Equal(a, b)
			back, other := val.Equal(b, a)
			if there || back || err != nil || other != nil {
				t.Error(val.Repr(a), val.Repr(b), there, back, err, other)
			}
		}
	}
	is, err := val.Equal(val.Tuple(rangeOf(t, 0, 3, 2), said(t, "{1: 2}")), val.Tuple(rangeOf(t, 0, 4, 2), said(t, "{1: 2}")))
	if !is || err != nil {
		t.Error("within:", is, err)
	}
	long, err := list.Range(far(), far().Add(num.Of(1<<40)), n(1))
	same, other := list.Range(far(), far().Add(num.Of(1<<40)), n(1))
	if is, last := val.Equal(long, same); !is || err != nil || other != nil || last != nil {
		t.Error("far:", is, err, other, last)
	}
}

// P10.2, P10.3, P10.6: what else is asked of a range.
func TestRangeAsked(t *testing.T) {
	for _, r := range []val.Value{rangeOf(t, 0, 0, 1), rangeOf(t, 0, 3, 1)} {
		if k, err := val.Key(r); k != "" || err != api.ErrDynamic {
			t.Error("Key:", k, err)
		}
		if l, is := val.Items(r); len(l) > 0 || is {
			t.Error("Items:", l)
		}
		if k, is := val.Len(r); k != 0 || is {
			t.Error("Len:", k)
		}
		if names := val.Fields(r); len(names) > 0 {
			t.Error("Fields:", names)
		}
		val.Freeze(r)
		if !val.Frozen(r) {
			t.Error("Frozen")
		}
		if v, is := val.AsInt(r); is || v.Text() != "0" {
			t.Error("AsInt")
		}
	}
}
