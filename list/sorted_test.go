package list_test

import (
	"fmt"
	"math/rand"
	"slices"
	"testing"

	"smithy/api"
	"smithy/list"
	"smithy/num"
	"smithy/val"
)

// P12.2: Sorted of what has an order, from the least on and back.
func TestSorted(t *testing.T) {
	for _, c := range []struct{ l, up, back string }{
		{"[]", "[]", "[]"}, {"[1]", "[1]", "[1]"}, {"[3, 1, 2]", "[1, 2, 3]", "[3, 2, 1]"}, {"[2, 1]", "[1, 2]", "[2, 1]"}, {"[1, 2]", "[1, 2]", "[2, 1]"},
		{"[1, 1, 1]", "[1, 1, 1]", "[1, 1, 1]"}, {"[10, 9, -1, -10, 0]", "[-10, -1, 0, 9, 10]", "[10, 9, 0, -1, -10]"},
		{"[True, False, True]", "[False, True, True]", "[True, True, False]"},
		{`["b", "", "a", "B", "ab"]`, `["", "B", "a", "ab", "b"]`, `["b", "ab", "a", "B", ""]`},
		{"[[2], [], [1, 5], [1]]", "[[], [1], [1, 5], [2]]", "[[2], [1, 5], [1], []]"},
		{`[(1, "b"), (0, None), (1, "a")]`, `[(0, None), (1, "a"), (1, "b")]`, `[(1, "b"), (1, "a"), (0, None)]`},
		{"[(None, 2), (None, 1)]", "[(None, 1), (None, 2)]", "[(None, 2), (None, 1)]"},
		{"[[{}, 2], [{}, 1]]", "[[{}, 1], [{}, 2]]", "[[{}, 2], [{}, 1]]"},
	} {
		got, err := list.Sorted(items(t, c.l), false)
		isList(t, c.l, got, err, c.up, nil)
		got, err = list.Sorted(items(t, c.l), true)
		isList(t, c.l+" back", got, err, c.back, nil)
	}
	great := []val.Value{val.Int(far()), integer(0), val.Int(far().Neg()), val.Int(far().Add(num.Of(1)))}
	got, err := list.Sorted(great, false)
	isList(t, "great", got, err, val.Repr(val.NewList(great[2], great[1], great[0], great[3])), nil)
	got, err = list.Sorted(nil, true)
	isList(t, "nothing", got, err, "[]", nil)
}

// P12.2: one alone is held against none, whatever it is; nor is what stands behind a difference.
func TestSortedAlone(t *testing.T) {
	for i, v := range append(rowless(t), said(t, "{}"), val.Str("a"), rangeOf(t, 0, 3, 1), nest(api.MaxDeep+1, integer(1))) {
		for _, back := range []bool{false, true} {
			got, err := list.Sorted([]val.Value{v}, back)
			if len(got) != 1 || got[0] != v || err != nil {
				t.Error(i, got, err)
			}
		}
	}
	got, err := list.Sorted(items(t, `[(2, None), (1, "a"), (0, {})]`), false)
	isList(t, "behind", got, err, `[(0, {}), (1, "a"), (2, None)]`, nil)
}

// P12.2: of two that have to be held against each other Less says an error: ErrDynamic, whichever it was.
func TestSortedDynamic(t *testing.T) {
	one, two := nest(api.MaxDeep+1, integer(1)), nest(api.MaxDeep+1, integer(2))
	for i, l := range [][]val.Value{
		items(t, `[1, "a"]`), items(t, "[1, True]"), items(t, "[None, None]"), items(t, "[{}, {}]"), items(t, "[1, 2, 3, 4, None]"), items(t, "[None, 1, 2, 3]"), items(t, "[[1], (1,)]"),
		items(t, `[(1, 2), (1, "a")]`), items(t, `[(1, 2), (0, 1), (2, 2), (1, None)]`), items(t, "[[None, 1], [None, None]]"),
		{structOf(t, "a", integer(1)), structOf(t, "a", integer(2))}, {rangeOf(t, 0, 1, 1), rangeOf(t, 0, 2, 1)}, {integer(1), rangeOf(t, 0, 2, 1)}, append(rowless(t)[:1], rowless(t)...),
		{one, two}, {two, one}, {val.Tuple(), one, two}, {integer(1), one},
	} {
		for _, back := range []bool{false, true} {
			for range len(l) {
				got, err := list.Sorted(l, back)
				isList(t, fmt.Sprint(i, back), got, err, "", api.ErrDynamic)
				l = append(l[1:], l[0])
			}
		}
	}
	l := append(numbers(500), val.Str("a"))
	for _, at := range []int{0, 1, 250, 499, 500} {
		got, err := list.Sorted(slices.Concat(l[:at], l[500:], l[at:500]), false)
		isList(t, fmt.Sprint("a Str at ", at), got, err, "", api.ErrDynamic)
	}
}

// P12.2: those that are none less than the other stay in order, back, too.
func TestSortedStays(t *testing.T) {
	for count := range 60 {
		var l []val.Value
		for i := range count {
			// Equal ones that are told apart by which they are.
			l = append(l, val.NewList(integer(i*7%4), val.Str("x")))
		}
		for _, back := range []bool{false, true} {
			got, err := list.Sorted(l, back)
			if err != nil {
				t.Fatal(err)
			}
			var want []val.Value
			for k := range 4 {
				if back {
					k = 3 - k
				}
				for i := range l {
					if i*7%4 == k {
						want = append(want, l[i])
					}
				}
			}
			if !slices.Equal(got, want) {
				t.Error(count, back, "not in order")
			}
		}
	}
}

// P12.2: random rows of Ints, Strs and Tuples against taking the first that is least, again and again.
func TestSortedAtRandom(t *testing.T) {
	r := rand.New(rand.NewSource(12))
	for range 300 {
		var l []val.Value
		kind, most := r.Intn(3), 1+r.Intn(40)
		for range r.Intn(80) {
			k := r.Intn(most)
			l = append(l, []val.Value{integer(k), val.Str(fmt.Sprint(k)), val.Tuple(integer(k%3), integer(k))}[kind])
		}
		back := r.Intn(2) == 0
		got, err := list.Sorted(l, back)
		if want := plainSorted(l, back); err != nil || !slices.Equal(got, want) {
			t.Fatal(val.Repr(val.NewList(l...)), back, val.Repr(val.NewList(got...)), err)
		}
	}
}

func plainSorted(l []val.Value, back bool) []val.Value {
	var sorted []val.Value
	for left := slices.Clone(l); len(left) > 0; {
		first := 0
		for i := range left {
			a, b := left[i], left[first]
			if back {
				a, b = b, a
			}
			if is, err := val.Less(a, b); is && err == nil {
				first = i
			}
		}
		sorted, left = append(sorted, left[first]), slices.Delete(left, first, first+1)
	}
	return sorted
}

// weighing is a value with what it weighs.
type weighing struct {
	value  val.Value
	weight int
}

// weighed is a value of each kind with what it weighs.
func weighed(t testing.TB) []weighing {
	d := said(t, "{1: [2, 3], (4, 5): None, 6: 7}").(*val.Dict)
	d.Del(integer(6))
	in := val.Tuple(integer(1), integer(2))
	l := []weighing{
		{said(t, "[]"), 1}, {said(t, "[1, 2, 3]"), 4}, {said(t, "()"), 1}, {said(t, "(1, (2,))"), 4}, {said(t, "{}"), 1}, {said(t, "{1: 2, 3: 4}"), 5}, {d, 9},
		{structOf(t, ""), 1}, {structOf(t, "a b", integer(1), said(t, "[2]")), 4}, {val.NewList(in, in, in), 10}, {val.Str("abc"), 1}, {val.Int(far()), 1}, {rangeOf(t, 0, 100, 1), 1},
	}
	for _, v := range rowless(t)[:4] {
		l = append(l, weighing{v, 1})
	}
	return l
}

// P12.2: items that weigh more than 2^12 in all, each kind by what it has.
func TestSortedWeight(t *testing.T) {
	for i, w := range weighed(t) {
		// All in one Tuple, which is held against none.
		fits := append(many((1<<12-1)/w.weight, w.value), many((1<<12-1)%w.weight, val.None())...)
		got, err := list.Sorted([]val.Value{val.Tuple(fits...)}, false)
		if len(got) != 1 || err != nil {
			t.Error(i, "as much as may be:", err)
		}
		got, err = list.Sorted([]val.Value{val.Tuple(append(fits, val.None())...)}, false)
		isList(t, fmt.Sprint(i, " and one more"), got, err, "", api.ErrLimit)
		got, err = list.Sorted([]val.Value{val.Tuple(fits...), val.None()}, false)
		isList(t, fmt.Sprint(i, " and one beside it"), got, err, "", api.ErrLimit)
	}
	got, err := list.Sorted(numbers(1<<12), true)
	if len(got) != 1<<12 || err != nil {
		t.Fatal(len(got), err)
	}
	for i, v := range got {
		reads(t, "back", v, fmt.Sprint(1<<12-1-i))
	}
	got, err = list.Sorted(numbers(1<<12+1), false)
	isList(t, "one more", got, err, "", api.ErrLimit)
	got, err = list.Sorted(append(numbers(1<<12), val.None()), false)
	isList(t, "the weight ahead of the order", got, err, "", api.ErrLimit)
}

// P12.2, P0.1: what has itself, lies deep, or stands in very many places.
func TestSortedHeavy(t *testing.T) {
	loop, d := val.NewList(), val.NewDict()
	isError(t, "Append", list.Append(loop, d), nil)
	isError(t, "Set", d.Set(integer(1), loop), nil)
	wide := integer(1)
	for range 200 {
		wide = val.Tuple(wide, wide)
	}
	for i, v := range []val.Value{loop, d, wide, nest(300000, integer(1)), val.Tuple(many(1<<20, wide)...)} {
		got, err := list.Sorted([]val.Value{v}, false)
		isList(t, fmt.Sprint(i), got, err, "", api.ErrLimit)
	}
	got, err := list.Sorted([]val.Value{nest(1<<12-1, integer(1))}, false)
	if len(got) != 1 || err != nil {
		t.Error(err)
	}
}
