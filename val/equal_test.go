package val_test

import (
	"errors"
	"fmt"
	"slices"
	"testing"

	"smithy/api"
	"smithy/num"
	"smithy/val"
)

// equal holds an answer of Equal, both ways round, against what it has to be.
func equal(t *testing.T, what string, a, b val.Value, want bool, wantErr error) {
	t.Helper()
	for _, pair := range [][2]val.Value{{a, b}, {b, a}} {
		if is, err := val.Equal(pair[0], pair[1]); is != want || err != wantErr {
			t.Errorf("%s: %v %v, want %v %v", what, is, err, want, wantErr)
		}
	}
}

// unlike is values of all kinds, no two of them equal.
var unlike = []string{
	"None", "True", "False", "0", "1", "-1", `""`, `"a"`, `"b"`, `"1"`, `"None"`,
	"[]", "()", "{}", "[0]", "(0,)", "{0: 0}", "[1]", "(1,)", "[0, 0]", "(0, 0)", "[0, 1]", "[1, 0]", "(0, 1)", "(1, 0)", "[0, 1, 0]",
	"[False]", "[True]", "[None]", "(None,)", "[[]]", "[()]", "[{}]", "([],)", "((),)", "({},)", "[[0]]", "[[0], 0]", "[0, [0]]", `["a"]`, `["a", "b"]`, `["b", "a"]`,
	"{0: 1}", "{1: 0}", "{1: 1}", "{False: 0}", "{0: False}", "{0: None}", "{None: 0}", "{0: 0, 1: 1}", "{0: 1, 1: 0}", "{0: 0, 2: 1}", "{0: 0, 1: 1, 2: 2}", "{(): []}", "{(): ()}", "{0: {}}", "{0: {0: 0}}", `{"a": 0}`, `{"b": 0}`, "{(0, 1): 2}", "{(1, 0): 2}",
}

// P10.5: each kind against each: the same where they are of one kind and have the same.
func TestEqual(t *testing.T) {
	for _, a := range unlike {
		for _, b := range unlike {
			equal(t, a+" and "+b, said(t, a), said(t, b), a == b, nil)
		}
	}
	for _, c := range kinds(t) {
		for _, other := range kinds(t) {
			equal(t, c.repr+" and "+other.repr, c.value, other.value, c.repr == other.repr, nil)
		}
	}
	for _, c := range [][2]string{{"{1: 2, 3: 4}", "{3: 4, 1: 2}"}, {"{1: [], (): {2: 3, 4: 5}, 'a': 0}", "{'a': 0, (): {4: 5, 2: 3}, 1: []}"}, {"-0", "0"}, {"[(1, [2])]", "[(1, [2])]"}} {
		equal(t, c[0]+" and "+c[1], said(t, c[0]), said(t, c[1]), true, nil)
	}
	big, _ := num.Parse("100000000000000000000")
	equal(t, "great numbers", val.Int(big), val.Int(num.Of(1e10).Mul(num.Of(1e10))), true, nil)
	equal(t, "great numbers", val.Int(big), val.Int(big.Add(num.Of(1))), false, nil)
	equal(t, "signs", val.Int(big), val.Int(big.Neg()), false, nil)
}

// P10.5: Structs by names and values.
func TestEqualStructs(t *testing.T) {
	one, two := integer(1), integer(2)
	structs := []val.Value{
		structOf(t, ""), structOf(t, "a", one), structOf(t, "a", two), structOf(t, "b", one), structOf(t, "a b", one, two), structOf(t, "a b", two, one), structOf(t, "a c", one, two), structOf(t, "a b c", one, two, one), structOf(t, "a", val.NewList()), structOf(t, "ab", one), structOf(t, "a", structOf(t, "a", one)), structOf(t, "b a", structOf(t, ""), one),
	}
	for i, a := range structs {
		for k, b := range structs {
			equal(t, fmt.Sprint(i, " and ", k), a, b, i == k, nil)
		}
		equal(t, "a Struct and another kind", a, said(t, `{"a": 1}`), false, nil)
		equal(t, "a Struct and another kind", a, val.NewList(one), false, nil)
	}
	equal(t, "in another order", structOf(t, "a b", one, val.NewList()), structOf(t, "b a", val.NewList(), one), true, nil)
	equal(t, "in another order", structOf(t, "a b", one, two), structOf(t, "b a", one, two), false, nil)
}

// P10.5: what was taken out and set again, what is frozen and what is not: as they are now.
func TestEqualNow(t *testing.T) {
	a, b := said(t, "{1: 2, 3: 4}").(*val.Dict), said(t, "{1: 2, 3: 4}").(*val.Dict)
	a.Del(integer(1))
	equal(t, "taken out", a, b, false, nil)
	a.Set(integer(1), integer(2))
	equal(t, "set again", a, b, true, nil)
	b.Set(integer(3), integer(5))
	equal(t, "another value", a, b, false, nil)
	b.Set(integer(3), integer(4))
	val.Freeze(b)
	equal(t, "frozen", a, b, true, nil)
	equal(t, "itself", a, a, true, nil)
}

// deepest is pairs of each kind that holds others, equal, as deep as they may be, and deeper.
func TestEqualDeep(t *testing.T) {
	for _, w := range wraps(t) {
		for _, c := range []struct {
			n     int
			value string
			want  error
		}{
			{api.MaxDeep, "1", nil}, {api.MaxDeep, "'a'", nil}, {api.MaxDeep, "None", nil}, {api.MaxDeep, "True", nil},
			{api.MaxDeep + 1, "1", api.ErrLimit}, {api.MaxDeep + 1, "None", api.ErrLimit}, {5000, "1", api.ErrLimit},
			{api.MaxDeep - 1, "[]", nil}, {api.MaxDeep - 1, "()", nil}, {api.MaxDeep - 1, "{}", nil},
			{api.MaxDeep - 1, "[1]", nil}, {api.MaxDeep - 1, "(1,)", nil}, {api.MaxDeep - 1, "{1: 1}", nil},
			{api.MaxDeep, "[]", api.ErrLimit}, {api.MaxDeep, "()", api.ErrLimit}, {api.MaxDeep, "{}", api.ErrLimit},
			{api.MaxDeep, "[1]", api.ErrLimit}, {api.MaxDeep, "(1,)", api.ErrLimit}, {api.MaxDeep, "{1: 1}", api.ErrLimit},
			{api.MaxDeep + 1, "[]", api.ErrLimit}, {api.MaxDeep + 1, "()", api.ErrLimit}, {api.MaxDeep + 1, "{}", api.ErrLimit},
		} {
			a, b := nest(c.n, said(t, c.value), w.lay), nest(c.n, said(t, c.value), w.lay)
			what := fmt.Sprint(c.n, " of ", w.name, " around ", c.value)
			equal(t, what, a, b, c.want == nil, c.want)
			equal(t, what+", itself", a, a, c.want == nil, c.want)
		}
		for n, want := range map[int]error{api.MaxDeep - 1: nil, api.MaxDeep: api.ErrLimit} {
			a, b := nest(n, structOf(t, ""), w.lay), nest(n, structOf(t, ""), w.lay)
			equal(t, fmt.Sprint(n, " of ", w.name, " around an empty Struct"), a, b, want == nil, want)
		}
		equal(t, "the innermost unlike", nest(api.MaxDeep, integer(1), w.lay), nest(api.MaxDeep, integer(2), w.lay), false, nil)
		equal(t, "the innermost of another kind", nest(api.MaxDeep, integer(1), w.lay), nest(api.MaxDeep, val.Str("1"), w.lay), false, nil)
		equal(t, "one less deep than the other", nest(api.MaxDeep-1, integer(1), w.lay), nest(api.MaxDeep, integer(1), w.lay), false, nil)
		equal(t, "a difference above", nest(2, val.NewList(integer(1), nest(api.MaxDeep, integer(1), w.lay)), w.lay), nest(2, val.NewList(integer(2), nest(api.MaxDeep, integer(1), w.lay)), w.lay), false, nil)
	}
	v := val.Value(integer(1))
	for range api.MaxDeep / 4 {
		for _, w := range wraps(t) {
			v = w.lay(v)
		}
	}
	equal(t, "all four", v, v, true, nil)
	equal(t, "all four and one more", val.Tuple(v), val.Tuple(v), false, api.ErrLimit)
}

// P10.5: lengths first: they are looked at ahead of the items.
func TestEqualLengths(t *testing.T) {
	one := integer(1)
	deep := nest(api.MaxDeep, one, inTuple)
	for _, pair := range [][2]val.Value{
		{val.NewList(deep), val.NewList(deep, one)}, {val.Tuple(deep), val.Tuple()}, {dictOf(t, one, deep), dictOf(t, one, deep, val.None(), one)}, {structOf(t, "a", deep), structOf(t, "a b", deep, one)},
	} {
		equal(t, val.Repr(pair[1]), pair[0], pair[1], false, nil)
	}
	equal(t, "wide Lists", val.NewList(many(5000, one)...), val.NewList(many(5001, one)...), false, nil)
	equal(t, "wide Tuples", val.Tuple(many(5000, one)...), val.Tuple(many(4999, one)...), false, nil)
	equal(t, "wide in one another", val.Tuple(val.Tuple(many(4095, one)...), one), val.Tuple(val.Tuple(many(4094, one)...), one), false, nil)
	l, _ := loop()
	equal(t, "what has itself", val.NewList(l), val.NewList(l, l), false, nil)
	equal(t, "lengths ahead of the first item", val.NewList(l, one), val.NewList(l), false, nil)
}

// P10.5: what has itself comes to what is too deep, but where a difference is met ahead.
func TestEqualLoop(t *testing.T) {
	a, d := loop()
	b, e := loop()
	equal(t, "itself", a, a, false, api.ErrLimit)
	equal(t, "another one", a, b, false, api.ErrLimit)
	equal(t, "the Dict", d, e, false, api.ErrLimit)
	equal(t, "List and Dict", a, d, false, nil)
	equal(t, "within", val.Tuple(integer(1), a), val.Tuple(integer(1), a), false, api.ErrLimit)
	equal(t, "ahead of it", val.Tuple(integer(1), a), val.Tuple(integer(2), a), false, nil)
	equal(t, "behind it", val.Tuple(a, integer(1)), val.Tuple(a, integer(2)), false, api.ErrLimit)
	val.Freeze(a)
	equal(t, "frozen", a, b, false, api.ErrLimit)
	if is, err := val.Equal(a, a); is || !errors.Is(err, api.ErrLimit) {
		t.Error(is, err)
	}
}

// P10.5: 2^12 pairs in all, each as often as it stands.
func TestEqualPairs(t *testing.T) {
	one := integer(1)
	names := make([]string, 4096)
	for i := range names {
		names[i] = fmt.Sprintf("n%04d", i)
	}
	dict := func(n int) val.Value {
		d := val.NewDict()
		for i := range n {
			d.Set(integer(i), one)
		}
		return d
	}
	fields := func(n int) val.Value { return structOf(t, fmt.Sprint(names[:n])[1:1+6*n-1], many(n, one)...) }
	for i, c := range []struct {
		make func() val.Value
		want error
	}{
		{func() val.Value { return val.NewList(many(4095, one)...) }, nil},
		{func() val.Value { return val.NewList(many(4096, one)...) }, api.ErrLimit},
		{func() val.Value { return val.Tuple(numbers(4095)...) }, nil},
		{func() val.Value { return val.Tuple(numbers(4096)...) }, api.ErrLimit},
		{func() val.Value { return dict(2000) }, nil},
		{func() val.Value { return dict(4096) }, api.ErrLimit},
		{func() val.Value { return fields(4095) }, nil},
		{func() val.Value { return fields(4096) }, api.ErrLimit},
		{func() val.Value { return val.NewList(many(4095, val.NewList())...) }, nil},
		{func() val.Value { return val.NewList(many(4096, val.NewList())...) }, api.ErrLimit},
		{func() val.Value {
			return val.NewList(val.Tuple(many(1000, one)...), val.NewDict(), fields(1000), val.NewList(many(2091, one)...))
		}, nil},
		{func() val.Value {
			return val.NewList(val.Tuple(many(1000, one)...), val.NewDict(), fields(1000), val.NewList(many(2092, one)...))
		}, api.ErrLimit},
		{func() val.Value { return twice(11, one) }, nil},
		{func() val.Value { return val.Tuple(twice(11, one)) }, nil},
		{func() val.Value { return val.Tuple(twice(11, one), one) }, api.ErrLimit},
		{func() val.Value { return twice(12, one) }, api.ErrLimit},
		{func() val.Value { return twice(60, one) }, api.ErrLimit},
	} {
		v := c.make()
		equal(t, fmt.Sprint(i), v, c.make(), c.want == nil, c.want)
		equal(t, fmt.Sprint(i, ", itself"), v, v, c.want == nil, c.want)
	}
}

// P10.5: a difference that is met ahead of the limit is told, from the left; one that is met behind it, or at it, is not.
func TestEqualFirst(t *testing.T) {
	one, two := integer(1), integer(2)
	deep := nest(api.MaxDeep, one, inTuple)
	row := func(n, at int) val.Value {
		l := many(n, one)
		if at < n {
			l[at] = two
		}
		return val.NewList(l...)
	}
	for _, n := range []int{4096, 5000, 10000} {
		for _, at := range []int{0, 1, 2000, 4093, 4094} {
			equal(t, fmt.Sprint(n, " items, unlike at ", at), row(n, n), row(n, at), false, nil)
		}
		for _, at := range []int{4095, n - 1} {
			equal(t, fmt.Sprint(n, " items, unlike at ", at), row(n, n), row(n, at), false, api.ErrLimit)
		}
	}
	equal(t, "unlike at the last pair", row(4095, 4095), row(4095, 4094), false, nil)
	equal(t, "ahead of what is too deep", val.Tuple(one, deep), val.Tuple(two, deep), false, nil)
	equal(t, "behind what is too deep", val.Tuple(deep, one), val.Tuple(deep, two), false, api.ErrLimit)
	equal(t, "a kind ahead of what is too deep", val.Tuple(one, deep), val.Tuple(val.Bool(true), deep), false, nil)
	// A Dict goes by its own order, and comes to one key more ahead of its limit or behind it.
	ahead, behind := dictOf(t, one, one, two, deep), dictOf(t, two, deep, one, one)
	other := dictOf(t, one, two, two, deep)
	if is, err := val.Equal(ahead, other); is || err != nil {
		t.Error("a Dict's difference ahead:", is, err)
	}
	if is, err := val.Equal(behind, other); is || err != api.ErrLimit {
		t.Error("a Dict's difference behind:", is, err)
	}
	equal(t, "a key that lacks", dictOf(t, one, deep, two, deep), dictOf(t, val.None(), deep, val.Str(""), deep), false, nil)
}

// P10.5: Equal changes nothing.
func TestEqualStays(t *testing.T) {
	a, b := said(t, "[1, {2: [3], 4: ()}, (5,)]"), said(t, "[1, {4: (), 2: [3]}, (5,)]")
	for range 3 {
		equal(t, "again", a, b, true, nil)
		reads(t, a, "[1, {2: [3], 4: ()}, (5,)]")
		reads(t, b, "[1, {4: (), 2: [3]}, (5,)]")
	}
	if val.Frozen(a) || slices.ContainsFunc(numbers(3), func(v val.Value) bool { return !val.Frozen(v) }) {
		t.Error("Frozen")
	}
}
