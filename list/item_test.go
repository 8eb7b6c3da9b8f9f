package list_test

import (
	"fmt"
	"slices"
	"strings"
	"testing"

	"smithy/api"
	"smithy/list"
	"smithy/num"
	"smithy/val"
)

// rowOf is what has its items by their places, with the Repr of each.
type rowOf struct {
	name  string
	value val.Value
	items []string
}

// rows is rows of each kind with so many items.
func rows(t testing.TB, count int) []rowOf {
	const letters = "a\x00\xff\nz"
	digits, quoted, odd := []string{}, []string{}, []string{}
	for i := range count {
		digits = append(digits, fmt.Sprint(i))
		quoted = append(quoted, val.Repr(val.Str(letters[i:i+1])))
		odd = append(odd, fmt.Sprint(7-3*i))
	}
	return []rowOf{
		{"Str", val.Str(letters[:count]), quoted},
		{"List", val.NewList(numbers(count)...), digits},
		{"Tuple", val.Tuple(numbers(count)...), digits},
		{"range", rangeOf(t, 0, count, 1), digits},
		{"range down", rangeOf(t, 7, 8-3*count, -3), odd},
	}
}

// P12.1: At of each kind of row, within it, from the end, and out of it.
func TestAt(t *testing.T) {
	for count := range 6 {
		for _, r := range rows(t, count) {
			for i := -count - 2; i < count+2; i++ {
				what := fmt.Sprintf("%s of %d at %d", r.name, count, i)
				got, err := list.At(r.value, n(i))
				at := i
				if i < 0 {
					at += count
				}
				if at < 0 || at >= count {
					isValue(t, what, got, err, "", api.ErrDynamic)
				} else {
					isValue(t, what, got, err, r.items[at], nil)
				}
			}
			for _, i := range edges() {
				got, err := list.At(r.value, i)
				isValue(t, r.name+" at "+i.Text(), got, err, "", api.ErrDynamic)
			}
		}
	}
}

// P12.1: At is the item itself, not one that is like it; of a Str it is a Str.
func TestAtItself(t *testing.T) {
	in := val.NewList()
	for _, v := range []val.Value{val.NewList(integer(1), in), val.Tuple(integer(1), in)} {
		if got, err := list.At(v, n(-1)); got != val.Value(in) || err != nil {
			t.Error(got, err)
		}
	}
	got, err := list.At(val.Str("äb"), n(1))
	if s, is := val.AsStr(got); s != "\xa4" || !is || err != nil {
		t.Errorf("%q %v %v", s, is, err)
	}
}

// P12.1: At of a long range, also of numbers beyond all ints.
func TestAtLong(t *testing.T) {
	long, err := list.Range(far(), far().Neg(), num.Of(-1<<62).Mul(num.Of(1<<30)))
	if err != nil {
		t.Fatal(err)
	}
	// From 2^124 down to -2^124 by 2^92: 2^33 items.
	for _, c := range []struct {
		i    int
		want num.Num
	}{{0, far()}, {1 << 32, num.Num{}}, {-1, far().Neg().Add(num.Of(1 << 62).Mul(num.Of(1 << 30)))}, {-1 << 33, far()}} {
		got, err := list.At(long, n(c.i))
		isValue(t, fmt.Sprint("at ", c.i), got, err, c.want.Text(), nil)
	}
	for _, i := range []int{1 << 33, -1<<33 - 1} {
		got, err := list.At(long, n(i))
		isValue(t, fmt.Sprint("at ", i), got, err, "", api.ErrDynamic)
	}
	most := rangeOf(t, 5, 5+1<<40, 1)
	for i, want := range map[int]string{1<<40 - 1: "1099511627780", -1 << 40: "5", 1 << 40: "", -1<<40 - 1: ""} {
		got, err := list.At(most, n(i))
		if want == "" {
			isValue(t, fmt.Sprint("at ", i), got, err, "", api.ErrDynamic)
		} else {
			isValue(t, fmt.Sprint("at ", i), got, err, want, nil)
		}
	}
}

// P12.1: what has no items by their places.
func TestNoRow(t *testing.T) {
	for i, v := range append(rowless(t), said(t, "{}"), said(t, "{0: 1, 1: 2}")) {
		for _, at := range []int{0, 1, -1} {
			got, err := list.At(v, n(at))
			isValue(t, fmt.Sprint("At of ", i), got, err, "", api.ErrDynamic)
		}
		for _, has := range []bool{false, true} {
			got, err := list.Slice(v, n(0), n(1), has, !has)
			isValue(t, fmt.Sprint("Slice of ", i), got, err, "", api.ErrDynamic)
		}
	}
}

// whole is the Repr of a slice that has these items.
func (r rowOf) whole(items []string) string {
	switch r.name {
	case "Str":
		s, _ := val.AsStr(r.value)
		from := 0
		for from < len(s) && len(items) > 0 && r.items[from] != items[0] {
			from++
		}
		return val.Repr(val.Str(s[from : from+len(items)]))
	case "Tuple":
		if len(items) == 1 {
			return "(" + items[0] + ",)"
		}
		return "(" + strings.Join(items, ", ") + ")"
	}
	return "[" + strings.Join(items, ", ") + "]"
}

// plainCut is the items that stand at a place that is not below the one bound, and is below the other.
func plainCut(items []string, from, to int, has, until bool) []string {
	turned := func(i int) int {
		if i < 0 {
			return i + len(items)
		}
		return i
	}
	var l []string
	for i := range items {
		if (!has || i >= turned(from)) && (!until || i < turned(to)) {
			l = append(l, items[i])
		}
	}
	return l
}

// P12.1: Slice of each kind of row, by all bounds.
func TestSlice(t *testing.T) {
	for count := range 6 {
		for _, r := range rows(t, count) {
			for from := -count - 2; from < count+3; from++ {
				for to := -count - 2; to < count+3; to++ {
					for _, has := range []bool{false, true} {
						for _, until := range []bool{false, true} {
							got, err := list.Slice(r.value, n(from), n(to), has, until)
							want := r.whole(plainCut(r.items, from, to, has, until))
							isValue(t, fmt.Sprintf("%s of %d, %d to %d, %v %v", r.name, count, from, to, has, until), got, err, want, nil)
						}
					}
				}
			}
		}
	}
}

// P12.1: bounds beyond an int are as the last there are.
func TestSliceFar(t *testing.T) {
	for _, r := range rows(t, 3) {
		for _, i := range edges() {
			minus := i.Cmp(num.Num{}) < 0
			all, none := r.whole(r.items), r.whole(nil)
			from, to := all, none
			if !minus {
				from, to = none, all
			}
			what := r.name + " " + i.Text()
			got, err := list.Slice(r.value, i, n(0), true, false)
			isValue(t, what+" on", got, err, from, nil)
			got, err = list.Slice(r.value, n(0), i, false, true)
			isValue(t, "to "+what, got, err, to, nil)
			got, err = list.Slice(r.value, i, i, true, true)
			isValue(t, what+" twice", got, err, none, nil)
			got, err = list.Slice(r.value, i, i, false, false)
			isValue(t, what+" left out", got, err, all, nil)
		}
	}
}

// P12.1: a range's slice has at most MaxItems items; those of other rows have what they have.
func TestSliceLimit(t *testing.T) {
	long := rangeOf(t, 0, 1<<40, 1)
	for _, c := range []struct{ from, to int }{{0, api.MaxItems}, {-api.MaxItems, 1 << 40}, {1 << 39, 1<<39 + api.MaxItems}, {7, 3}} {
		got, err := list.Slice(long, n(c.from), n(c.to), true, true)
		count, is := val.Len(got)
		if err != nil || !is || got.Kind() != api.VList || count != max(0, min(c.to-c.from, api.MaxItems)) {
			t.Error(c, count, is, err)
		}
		got, err = list.Slice(long, n(c.from), n(c.to+1), true, true)
		if c.to == api.MaxItems {
			isValue(t, "one more", got, err, "", api.ErrLimit)
		}
	}
	for _, c := range []struct {
		from, to   int
		has, until bool
	}{{0, 0, false, false}, {-api.MaxItems - 1, 0, true, false}, {0, api.MaxItems + 1, false, true}, {1, -1, true, true}} {
		got, err := list.Slice(long, n(c.from), n(c.to), c.has, c.until)
		isValue(t, fmt.Sprint(c), got, err, "", api.ErrLimit)
	}
	for _, v := range []val.Value{val.NewList(numbers(3000)...), val.Tuple(numbers(3000)...), val.Str(strings.Repeat("x", 3000))} {
		got, err := list.Slice(v, n(1), n(-1), true, true)
		if count, is := val.Len(got); count != 2998 || !is || err != nil || got.Kind() != v.Kind() {
			t.Error(count, is, err)
		}
	}
}

// P12.1: a List's slice is a new one: neither shows what becomes of the other.
func TestSliceNew(t *testing.T) {
	l := val.NewList(numbers(4)...)
	val.Freeze(l)
	whole, err := list.Slice(l, n(0), n(0), false, false)
	part, otherErr := list.Slice(l, n(1), n(3), true, true)
	if err != nil || otherErr != nil {
		t.Fatal(err, otherErr)
	}
	for _, v := range []val.Value{whole, part} {
		if val.Frozen(v) {
			t.Error("a new List is frozen")
		}
		isError(t, "Append", list.Append(v.(*val.List), integer(7)), nil)
		isError(t, "Put", list.Put(v, n(0), integer(8)), nil)
	}
	reads(t, "the List", l, "[0, 1, 2, 3]")
	reads(t, "the whole", whole, "[8, 1, 2, 3, 7]")
	reads(t, "the part", part, "[8, 2, 7]")
	other := val.NewList(numbers(3)...)
	whole, _ = list.Slice(other, n(0), n(0), false, false)
	isError(t, "Clear", list.Clear(other), nil)
	reads(t, "the whole", whole, "[0, 1, 2]")
	// What is gone over can be sliced, and the slice is not gone over.
	o, err := list.Each(l)
	if err != nil {
		t.Fatal(err)
	}
	whole, _ = list.Slice(l, n(0), n(1), false, true)
	isError(t, "Append", list.Append(whole.(*val.List), integer(7)), nil)
	o.End()
	of, _ := list.Slice(rangeOf(t, 0, 3, 1), n(0), n(0), false, false)
	isError(t, "Append", list.Append(of.(*val.List), integer(7)), nil)
	reads(t, "a range's", of, "[0, 1, 2, 7]")
}

// P12.1: Put in each place of a List, as At has it.
func TestPut(t *testing.T) {
	for count := range 4 {
		for i := -count - 2; i < count+2; i++ {
			l := val.NewList(numbers(count)...)
			want := rows(t, count)[1].items
			err := list.Put(l, n(i), val.Str("x"))
			at := i
			if i < 0 {
				at += count
			}
			what := fmt.Sprintf("%d of %d", i, count)
			if at < 0 || at >= count {
				isError(t, what, err, api.ErrDynamic)
			} else {
				isError(t, what, err, nil)
				want = slices.Replace(want, at, at+1, `"x"`)
			}
			reads(t, what, l, "["+strings.Join(want, ", ")+"]")
		}
	}
	for _, i := range edges() {
		l := val.NewList(numbers(3)...)
		isError(t, i.Text(), list.Put(l, i, val.None()), api.ErrDynamic)
		reads(t, i.Text(), l, "[0, 1, 2]")
	}
	long := val.NewList(numbers(3000)...)
	isError(t, "a long one", list.Put(long, n(-1), val.None()), nil)
	if got, err := list.At(long, n(2999)); err != nil || got != val.None() {
		t.Error(got, err)
	}
}

// P12.1: Put into what is no List.
func TestPutNone(t *testing.T) {
	for i, v := range append(rowless(t), said(t, "{0: 1}"), said(t, "(1,)"), val.Str("a"), rangeOf(t, 0, 3, 1)) {
		isError(t, fmt.Sprint(i), list.Put(v, n(0), val.Str("b")), api.ErrDynamic)
	}
}
