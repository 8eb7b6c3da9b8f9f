package val_test

import (
	"sync"
	"testing"

	"smithy/api"
	"smithy/val"
)

// P10.6: Frozen of each kind: a List and a Dict can be changed, all else can't.
func TestFrozen(t *testing.T) {
	for _, c := range kinds(t) {
		stays := c.kind != api.VList && c.kind != api.VDict
		if got := val.Frozen(c.value); got != stays {
			t.Errorf("%s: %v", c.repr, got)
		}
		val.Freeze(c.value)
		if !val.Frozen(c.value) {
			t.Errorf("%s: not frozen", c.repr)
		}
		reads(t, c.value, c.repr)
	}
	if v := val.Tuple(val.NewList()); !val.Frozen(v) {
		t.Error("a Tuple of what can be changed can't be changed itself")
	}
	if v := structOf(t, "a", val.NewDict()); !val.Frozen(v) {
		t.Error("a Struct of what can be changed can't be changed itself")
	}
}

// P10.6: all that it has is frozen, too, whatever it stands in, and nothing that it does not have.
func TestFreezeWithin(t *testing.T) {
	for _, outer := range wraps(t) {
		for _, inner := range wraps(t) {
			l, d, beside := val.NewList(), val.NewDict(), val.NewList(integer(1))
			v := outer.lay(inner.lay(val.Tuple(integer(1), l, structOf(t, "a b", d, integer(2)))))
			holder := val.NewList(v, beside)
			val.Freeze(v)
			if !val.Frozen(l) || !val.Frozen(d) || d.Set(integer(1), integer(1)) != api.ErrDynamic {
				t.Errorf("%s of %s: not frozen within", outer.name, inner.name)
			}
			if val.Frozen(holder) || val.Frozen(beside) {
				t.Errorf("%s of %s: what has it is frozen", outer.name, inner.name)
			}
		}
	}
}

// P10.6: each of many, in each place.
func TestFreezeAll(t *testing.T) {
	lists := make([]*val.List, 20)
	l := make([]val.Value, len(lists))
	for i := range lists {
		lists[i] = val.NewList()
		l[i] = lists[i]
	}
	d := val.NewDict()
	for i := range 5 {
		d.Set(integer(i), l[i])
	}
	d.Set(integer(5), val.Tuple(l[5:9]...))
	gone := val.NewList()
	d.Set(integer(6), gone)
	d.Del(integer(6))
	v := val.Tuple(val.NewList(l[9:13]...), structOf(t, "a b c", l[13], l[14], l[15]), d, val.Tuple(), val.Tuple(l[16:]...))
	val.Freeze(v)
	for i := range lists {
		if !val.Frozen(lists[i]) {
			t.Error(i, "is not frozen")
		}
	}
	if val.Frozen(gone) {
		t.Error("what was taken out is frozen")
	}
}

// P10.6: a frozen one that was laid into another keeps what it is, and what is frozen twice, too.
func TestFreezeAgain(t *testing.T) {
	in := val.NewList()
	val.Freeze(in)
	d := dictOf(t, integer(1), in)
	if val.Frozen(d) || !val.Frozen(in) {
		t.Error("Frozen")
	}
	fresh := val.NewList()
	d.Set(integer(2), val.Tuple(in, fresh))
	for range 2 {
		val.Freeze(d)
		if !val.Frozen(d) || !val.Frozen(fresh) {
			t.Error("not frozen")
		}
	}
	reads(t, d, "{1: [], 2: ([], [])}")
}

// P10.6: a List that has itself, and a Dict.
func TestFreezeLoop(t *testing.T) {
	l, d := loop()
	val.Freeze(l)
	if !val.Frozen(l) || !val.Frozen(d) {
		t.Error("not frozen")
	}
	l, d = loop()
	beside := val.NewList()
	d.Set(integer(1), val.Tuple(d, structOf(t, "a b", l, beside)))
	val.Freeze(val.Tuple(d))
	if !val.Frozen(l) || !val.Frozen(d) || !val.Frozen(beside) {
		t.Error("not frozen")
	}
}

// P10.6: however deep, of each kind.
func TestFreezeDeep(t *testing.T) {
	n := 300000
	if testing.Short() {
		n = 3000
	}
	for _, w := range wraps(t) {
		in := val.NewList()
		v := nest(n, val.Value(in), w.lay)
		val.Freeze(v)
		if !val.Frozen(in) || !val.Frozen(v) {
			t.Error(w.name, "is not frozen")
		}
	}
}

// P10.6: what stands in many places is gone through once.
func TestFreezeWide(t *testing.T) {
	for _, lay := range []func(v val.Value) val.Value{
		func(v val.Value) val.Value { return val.NewList(v, v) },
		func(v val.Value) val.Value { return val.Tuple(v, v, v) },
		func(v val.Value) val.Value { return dictOf(t, integer(1), v, integer(2), v) },
		func(v val.Value) val.Value { return structOf(t, "a b", v, v) },
		func(v val.Value) val.Value { return val.Tuple(v, structOf(t, "a b", v, v), v) },
	} {
		in := val.NewList()
		v := nest(200, val.Value(in), lay)
		val.Freeze(v)
		if !val.Frozen(in) {
			t.Error("not frozen")
		}
	}
}

// P10.6, P0.5: what can't be changed may be asked by several at once.
func TestAtOnce(t *testing.T) {
	v := said(t, `[1, (2, [3], {"a": (), 4: {5: "b"}}), {}]`)
	val.Freeze(v)
	shared := val.Tuple(v, integer(1), val.Tuple(v))
	other := said(t, `[1, (2, [3], {"a": (), 4: {5: "b"}}), {}]`)
	val.Freeze(other)
	items, _ := val.Items(v)
	row, _ := val.Items(items[1])
	d := row[2].(*val.Dict)
	var all sync.WaitGroup
	for range 8 {
		all.Add(1)
		go func() {
			defer all.Done()
			for range 50 {
				is, err := val.Equal(v, other)
				x, has, _ := d.Get(val.Str("a"))
				if !is || err != nil || !has || val.Repr(x) != "()" || !val.Frozen(v) {
					t.Error(is, err, has)
				}
				if _, err := val.Less(shared, shared); err != nil || val.Repr(shared) == "" {
					t.Error(err)
				}
			}
		}()
	}
	all.Wait()
}
