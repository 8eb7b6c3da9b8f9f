package val_test

import (
	"slices"
	"strings"
	"testing"

	"smithy/api"
	"smithy/val"
)

// What the layers above need: Splice puts items in the place of others, cut to those that there are.
func TestSplice(t *testing.T) {
	for from := -2; from < 6; from++ {
		for to := -2; to < 6; to++ {
			for more := range 3 {
				l := val.NewList(numbers(3)...)
				first := min(max(from, 0), 3)
				end := min(max(to, first), 3)
				x := many(more, val.None())
				if err := val.Splice(l, from, to, x...); err != nil {
					t.Error(from, to, err)
				}
				reads(t, l, val.Repr(val.NewList(slices.Replace(numbers(3), first, end, x...)...)))
			}
		}
	}
	l := val.NewList()
	x := make([]val.Value, 2, 9)
	copy(x, numbers(2))
	if err := val.Splice(l, 0, 0, x...); err != nil {
		t.Error(err)
	}
	spoil(x, val.None())
	reads(t, l, "[0, 1]")
	val.Freeze(l)
	if err := val.Splice(l, 0, 0); err != api.ErrDynamic {
		t.Error("frozen:", err)
	}
}

// What the layers above need: Hold and Free, each as often as the other.
func TestHold(t *testing.T) {
	l, d := val.NewList(), val.NewDict()
	for _, v := range []val.Value{l, d} {
		val.Free(v)
		for holds := range 4 {
			for range holds {
				val.Hold(v)
			}
			for left := holds; left > 0; left-- {
				if !val.Fixed(v) || val.Frozen(v) {
					t.Error(holds, left, "can be changed")
				}
				val.Free(v)
			}
			if val.Fixed(v) {
				t.Error(holds, "can't be changed")
			}
		}
	}
	val.Hold(l)
	val.Hold(d)
	for range 2 {
		if err := val.Splice(l, 0, 0, val.None()); err != api.ErrDynamic {
			t.Error("Splice:", err)
		}
		if err := d.Set(integer(1), val.None()); err != api.ErrDynamic {
			t.Error("Set:", err)
		}
		if v, is, err := d.Del(integer(1)); v != nil || is || err != api.ErrDynamic {
			t.Error("Del:", v, is, err)
		}
		val.Freeze(val.Tuple(l, d))
		val.Free(l)
		val.Free(d)
	}
	if !val.Fixed(l) || !val.Fixed(d) {
		t.Error("frozen ones can be changed")
	}
	for _, c := range kinds(t) {
		if c.kind != api.VList && c.kind != api.VDict {
			val.Hold(c.value)
			val.Free(c.value)
			if !val.Fixed(c.value) {
				t.Error(c.repr, "can be changed")
			}
		}
	}
}

// What the layers above need: Step goes over Lists, Tuples and the keys of Dicts.
func TestStep(t *testing.T) {
	d := val.NewDict()
	for i := range 9 {
		d.Set(integer(i), val.None())
	}
	for _, i := range []int{0, 3, 4, 8} {
		d.Del(integer(i))
	}
	for _, v := range []val.Value{val.NewList(), val.NewList(numbers(3)...), val.Tuple(), val.Tuple(numbers(3)...), val.NewDict(), d} {
		want, _ := val.Items(v)
		var got []val.Value
		at := 0
		for {
			x, next, is := val.Step(v, at)
			if !is {
				if x != nil || next != 0 {
					t.Error("beside a false:", x, next)
				}
				break
			}
			got, at = append(got, x), next
		}
		if !slices.Equal(got, want) {
			t.Error(val.Repr(v), got)
		}
		for _, out := range []int{-1, -1 << 63, at, at + 1, 1<<63 - 1} {
			if x, next, is := val.Step(v, out); x != nil || next != 0 || is {
				t.Error(val.Repr(v), out, x, next)
			}
		}
	}
	for _, c := range kinds(t) {
		if _, is := val.Items(c.value); !is {
			if x, next, is := val.Step(c.value, 0); x != nil || next != 0 || is {
				t.Error(c.repr, x, next)
			}
		}
	}
}

// What the layers above need: First finds what is Equal, and counts the pairs of all that it looks at together.
func TestFirst(t *testing.T) {
	for _, c := range []struct {
		l    []val.Value
		x    val.Value
		want int
		err  error
	}{
		{nil, val.None(), -1, nil}, {numbers(3), integer(2), 2, nil}, {numbers(3), integer(3), -1, nil}, {many(3, integer(1)), integer(1), 0, nil},
		{numbers(1 << 12), integer(1<<12 - 1), 1<<12 - 1, nil}, {numbers(1 << 12), val.None(), -1, nil}, {numbers(1<<12 + 1), integer(1 << 12), 0, api.ErrLimit},
		{many(1<<11, val.Tuple(integer(1))), val.Tuple(integer(2)), -1, nil}, {many(1<<11+1, val.Tuple(integer(1))), val.Tuple(integer(2)), 0, api.ErrLimit},
	} {
		if at, err := val.First(c.l, c.x); at != c.want || err != c.err {
			t.Error(len(c.l), at, err)
		}
	}
	// The items of l stand on the left, which shows in the order in which Dicts are gone through.
	deep := nest(api.MaxDeep, integer(1), inTuple)
	ahead, behind := dictOf(t, integer(1), integer(1), integer(2), deep), dictOf(t, integer(2), deep, integer(1), integer(2))
	if at, err := val.First([]val.Value{ahead}, behind); at != -1 || err != nil {
		t.Error(at, err)
	}
	if at, err := val.First([]val.Value{behind}, ahead); at != 0 || err != api.ErrLimit {
		t.Error(at, err)
	}
}

// The weight of a value: itself, and all that it has, each as often as it stands.
func TestHeavy(t *testing.T) {
	two := val.NewList(integer(1))
	for _, c := range []struct {
		value  val.Value
		weight int
	}{
		{val.None(), 1}, {val.Str("abc"), 1}, {val.NewList(), 1}, {two, 2}, {val.Tuple(two, two), 5}, {dictOf(t, integer(1), two, val.Tuple(integer(1)), two), 8}, {structOf(t, "a b", two, two), 5}, {structOf(t, ""), 1},
	} {
		l := many(4096/c.weight, c.value)
		l = append(l, many(4096%c.weight, val.None())...)
		if val.Heavy(l) || !val.Heavy(append(l, val.None())) || !val.Heavy([]val.Value{val.NewList(l...)}) {
			t.Error(val.Repr(c.value), "does not weigh", c.weight)
		}
	}
	l, d := loop()
	for i, v := range []val.Value{l, d, twice(200, integer(1)), nest(300000, integer(1), inList)} {
		if !val.Heavy([]val.Value{v}) {
			t.Error(i, "does not weigh")
		}
	}
	if val.Heavy(nil) {
		t.Error("nothing weighs")
	}
}

// telling is a value of a layer above that tells more of itself than its kind.
type telling struct {
	empty bool
	repr  string
}

func (v telling) Kind() int { return api.VRange }

func (v telling) Empty() bool { return v.empty }

func (v telling) Repr() string { return v.repr }

func (v telling) Like(other val.Value) bool { return val.Repr(other) == v.repr }

// P10.3, P10.4, P10.5: what a value of a layer above tells of itself holds, wherever it stands.
func TestTelling(t *testing.T) {
	a, b, other := telling{repr: "x"}, telling{empty: true, repr: "x"}, telling{repr: "y"}
	if !val.Truth(a) || val.Truth(b) {
		t.Error("Truth")
	}
	reads(t, a, "x")
	equal(t, "alike", a, b, true, nil)
	equal(t, "unlike", a, other, false, nil)
	for _, w := range wraps(t) {
		reads(t, w.lay(a), strings.Replace(val.Repr(w.lay(val.Bool(true))), "True", "x", 1))
		equal(t, w.name, w.lay(a), w.lay(b), true, nil)
		equal(t, w.name, w.lay(a), w.lay(other), false, nil)
	}
	long := telling{repr: strings.Repeat("x", api.MaxText+1)}
	if got := val.Repr(long); got != long.repr[:api.MaxText] {
		t.Error(len(got))
	}
	if got := val.Repr(val.NewList(long, a)); got != "["+long.repr[:api.MaxText-1] {
		t.Error(len(got))
	}
}
