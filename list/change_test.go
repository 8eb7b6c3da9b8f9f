package list_test

import (
	"fmt"
	"math/rand"
	"slices"
	"testing"

	"smithy/api"
	"smithy/list"
	"smithy/num"
	"smithy/val"
)

// change is a call that changes a List.
type change struct {
	name string
	by   func(l *val.List) error
	more int // how many items more there are then
}

// pop is Pop without what it takes out.
func pop(l *val.List, i num.Num) error {
	v, err := list.Pop(l, i)
	if (v == nil) != (err != nil) {
		panic("Pop's value and error")
	}
	return err
}

// changes is each call that changes a List that has Ints from 0 on.
func changes() []change {
	x := val.Str("x")
	return []change{
		{"Put", func(l *val.List) error { return list.Put(l, n(0), x) }, 0},
		{"Append", func(l *val.List) error { return list.Append(l, x) }, 1},
		{"Extend", func(l *val.List) error { return list.Extend(l, x, x, x) }, 3},
		{"Extend by none", func(l *val.List) error { return list.Extend(l) }, 0},
		{"Insert ahead", func(l *val.List) error { return list.Insert(l, n(0), x) }, 1},
		{"Insert behind", func(l *val.List) error { return list.Insert(l, far(), x) }, 1},
		{"Pop", func(l *val.List) error { return pop(l, n(-1)) }, -1},
		{"Remove", func(l *val.List) error { return list.Remove(l, integer(0)) }, -1},
		{"Clear", list.Clear, -1 << 30},
	}
}

// P12.1: each call on what has one item, and on what has none.
func TestChanges(t *testing.T) {
	some := []string{`["x", 1]`, `[0, 1, "x"]`, `[0, 1, "x", "x", "x"]`, "[0, 1]", `["x", 0, 1]`, `[0, 1, "x"]`, "[0]", "[1]", "[]"}
	none := []string{"", `["x"]`, `["x", "x", "x"]`, "[]", `["x"]`, `["x"]`, "", "", "[]"}
	for i, c := range changes() {
		l := val.NewList(numbers(2)...)
		isError(t, c.name, c.by(l), nil)
		reads(t, c.name, l, some[i])
		l = val.NewList()
		if none[i] == "" {
			isError(t, c.name, c.by(l), api.ErrDynamic)
			none[i] = "[]"
		} else {
			isError(t, c.name, c.by(l), nil)
		}
		reads(t, c.name, l, none[i])
	}
}

// P12.1: Extend by many, by itself as an item, and by what it has.
func TestExtend(t *testing.T) {
	l := val.NewList(integer(1))
	isError(t, "Extend", list.Extend(l, integer(2), val.None(), integer(2)), nil)
	had, _ := val.Items(l)
	isError(t, "Extend", list.Extend(l, had...), nil)
	reads(t, "twice", l, "[1, 2, None, 2, 1, 2, None, 2]")
	isError(t, "Extend", list.Extend(l, l), nil)
	if got, err := list.At(l, n(-1)); got != val.Value(l) || err != nil {
		t.Error("itself:", err)
	}
	isError(t, "Remove", list.Remove(l, val.None()), nil)
	if got, err := list.Pop(l, n(-1)); got != val.Value(l) || err != nil {
		t.Error("itself:", err)
	}
	reads(t, "behind", l, "[1, 2, 2, 1, 2, None, 2]")
}

// P12.1: Insert at each place, cut to the bounds.
func TestInsert(t *testing.T) {
	for count := range 4 {
		for i := -count - 2; i < count+3; i++ {
			l := val.NewList(numbers(count)...)
			at := i
			if i < 0 {
				at += count
			}
			want := val.NewList(slices.Insert(numbers(count), min(max(at, 0), count), val.None())...)
			isError(t, "Insert", list.Insert(l, n(i), val.None()), nil)
			reads(t, fmt.Sprintf("%d of %d", i, count), l, val.Repr(want))
		}
		for _, i := range edges() {
			l := val.NewList(numbers(count)...)
			want := val.NewList(slices.Insert(numbers(count), count, val.None())...)
			if i.Cmp(num.Num{}) < 0 {
				want = val.NewList(slices.Insert(numbers(count), 0, val.None())...)
			}
			isError(t, "Insert", list.Insert(l, i, val.None()), nil)
			reads(t, i.Text(), l, val.Repr(want))
		}
	}
}

// P12.1: Pop at each place, and where there is none.
func TestPop(t *testing.T) {
	for count := range 4 {
		for i := -count - 2; i < count+2; i++ {
			l := val.NewList(numbers(count)...)
			at := i
			if i < 0 {
				at += count
			}
			got, err := list.Pop(l, n(i))
			what := fmt.Sprintf("%d of %d", i, count)
			if at < 0 || at >= count {
				isValue(t, what, got, err, "", api.ErrDynamic)
				reads(t, what, l, val.Repr(val.NewList(numbers(count)...)))
			} else {
				isValue(t, what, got, err, fmt.Sprint(at), nil)
				reads(t, what, l, val.Repr(val.NewList(slices.Delete(numbers(count), at, at+1)...)))
			}
		}
		for _, i := range edges() {
			l := val.NewList(numbers(count)...)
			got, err := list.Pop(l, i)
			isValue(t, i.Text(), got, err, "", api.ErrDynamic)
			reads(t, i.Text(), l, val.Repr(val.NewList(numbers(count)...)))
		}
	}
}

// P12.1: Remove takes the first that is Equal out, and that alone.
func TestRemove(t *testing.T) {
	for _, c := range []struct{ l, x, want string }{
		{"[1, 2, 1]", "1", "[2, 1]"}, {"[1, 2, 1]", "2", "[1, 1]"}, {"[True, 1, 0]", "1", "[True, 0]"}, {"[0, False]", "False", "[0]"},
		{"[[1], (1,), [1]]", "(1,)", "[[1], [1]]"}, {"[{1: 2, 3: 4}]", "{3: 4, 1: 2}", "[]"}, {"[None]", "None", "[]"}, {`["a", "A"]`, `"A"`, `["a"]`},
		{"[]", "1", ""}, {"[1]", "True", ""}, {"[1]", "[1]", ""}, {"[[1, 2]]", "[1]", ""}, {"[1, 2]", "None", ""},
	} {
		l := said(t, c.l).(*val.List)
		err := list.Remove(l, said(t, c.x))
		if c.want == "" {
			isError(t, c.l+" "+c.x, err, api.ErrDynamic)
			reads(t, c.x, l, c.l)
		} else {
			isError(t, c.l+" "+c.x, err, nil)
			reads(t, c.x, l, c.want)
		}
	}
}

// P12.1: what is frozen, or gone over, is not changed, whatever else is wrong.
func TestChangeShut(t *testing.T) {
	for _, count := range []int{0, 1, 3, api.MaxItems, 2000, 5000} {
		for _, c := range changes() {
			l := val.NewList(numbers(count)...)
			before := val.Repr(l)
			o, err := list.Each(l)
			if err != nil {
				t.Fatal(err)
			}
			what := fmt.Sprintf("%s of %d", c.name, count)
			isError(t, what+" that is gone over", c.by(l), api.ErrDynamic)
			reads(t, what, l, before)
			o.End()
			val.Freeze(l)
			isError(t, what+" that is frozen", c.by(l), api.ErrDynamic)
			reads(t, what, l, before)
		}
	}
	l := val.NewList(nest(api.MaxDeep+1, val.None()))
	same := nest(api.MaxDeep+1, val.None())
	isError(t, "too deep", list.Remove(l, same), api.ErrLimit)
	val.Freeze(l)
	isError(t, "too deep, and frozen", list.Remove(l, same), api.ErrDynamic)
}

// P12.1: a List comes to have MaxItems items at most; one that would have more stays.
func TestChangeLimit(t *testing.T) {
	for _, count := range []int{1, api.MaxItems - 3, api.MaxItems - 2, api.MaxItems - 1, api.MaxItems, api.MaxItems + 1, api.MaxItems + 2, 3000} {
		for _, c := range changes() {
			l := val.NewList(numbers(count)...)
			before := val.Repr(l)
			err := c.by(l)
			what := fmt.Sprintf("%s of %d", c.name, count)
			after, _ := val.Len(l)
			if c.name != "Put" && count+c.more > api.MaxItems {
				isError(t, what, err, api.ErrLimit)
				reads(t, what, l, before)
			} else if isError(t, what, err, nil); after != max(0, count+c.more) {
				t.Error(what, after)
			}
		}
	}
	l := val.NewList()
	isError(t, "just as many", list.Extend(l, numbers(api.MaxItems)...), nil)
	isError(t, "by none", list.Extend(l), nil)
	isError(t, "one more", list.Extend(l, integer(1)), api.ErrLimit)
	isError(t, "Clear", list.Clear(l), nil)
	isError(t, "more", list.Extend(l, numbers(api.MaxItems+1)...), api.ErrLimit)
	reads(t, "empty", l, "[]")
}

// P12.1: of what has more than that already, the limit is met ahead of all else but a lock.
func TestChangeLong(t *testing.T) {
	l := val.NewList(numbers(api.MaxItems + 2)...)
	isError(t, "Pop out of it", pop(l, far()), api.ErrLimit)
	isError(t, "Remove of none", list.Remove(l, val.None()), api.ErrLimit)
	l = val.NewList(numbers(api.MaxItems + 1)...)
	isError(t, "Pop out of it", pop(l, far()), api.ErrDynamic)
	isError(t, "Remove of none", list.Remove(l, val.None()), api.ErrDynamic)
}

// plainChange is a random call on a plain list, and on l, which has to do the same.
func plainChange(r *rand.Rand, plain []int, l *val.List) ([]int, error, error) {
	i, x := r.Intn(2*len(plain)+6)-len(plain)-3, r.Intn(6)
	at := i
	if i < 0 {
		at += len(plain)
	}
	in := at >= 0 && at < len(plain)
	if name := r.Intn(7); name < 3 && !in {
		err := pop(l, n(i))
		return plain, err, api.ErrDynamic
	} else if name == 0 {
		return slices.Delete(plain, at, at+1), pop(l, n(i)), nil
	} else if name == 1 {
		plain[at] = x
		return plain, list.Put(l, n(i), integer(x)), nil
	} else if name < 4 {
		return slices.Insert(plain, min(max(at, 0), len(plain)), x), list.Insert(l, n(i), integer(x)), nil
	} else if name == 4 {
		return append(plain, x), list.Append(l, integer(x)), nil
	} else if name == 5 && r.Intn(9) == 0 {
		return nil, list.Clear(l), nil
	} else if name == 5 {
		return append(plain, x, x+1), list.Extend(l, integer(x), integer(x+1)), nil
	}
	at = slices.Index(plain, x)
	if at < 0 {
		return plain, list.Remove(l, integer(x)), api.ErrDynamic
	}
	return slices.Delete(plain, at, at+1), list.Remove(l, integer(x)), nil
}

// P12.1: random rows of calls against a plain list; another List, made of what was there at times, stays.
func TestChangesAtRandom(t *testing.T) {
	r := rand.New(rand.NewSource(12))
	rounds := 20000
	if testing.Short() {
		rounds = 2000
	}
	l, plain := val.NewList(), []int{}
	kept, text := val.NewList(), "[]"
	for k := range rounds {
		var err, want error
		plain, err, want = plainChange(r, plain, l)
		all := make([]val.Value, len(plain))
		for i, x := range plain {
			all[i] = integer(x)
		}
		isError(t, fmt.Sprint(k), err, want)
		reads(t, fmt.Sprint(k), l, val.Repr(val.NewList(all...)))
		reads(t, "what was kept", kept, text)
		if r.Intn(20) == 0 {
			had, _ := val.Items(l)
			kept, text = val.NewList(had...), val.Repr(l)
		}
		if t.Failed() {
			return
		}
	}
}
