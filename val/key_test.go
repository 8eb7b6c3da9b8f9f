package val_test

import (
	"errors"
	"strings"
	"testing"

	"smithy/api"
	"smithy/num"
	"smithy/val"
)

// hashed is values that can be hashed, no two of them equal.
var hashed = []string{
	"None", "True", "False", "0", "1", "-1", "10", "11", "110", "-10",
	`""`, `"0"`, `"1"`, `"-1"`, `"None"`, `"N"`, `"B1"`, `"True"`, `"a"`, `"A"`, `"a "`, `"ab"`, `"a,b"`, `"a\x00"`, `"\x00"`, `"()"`, `"("`, `")"`, `"(a,)"`, `"1;"`, `"1;a"`, `"I1;"`, `"S1;a"`, `"S0;"`, `"\xff"`, `"ä"`,
	"()", "((),)", "(((),),)", "((), ())", "((), (), ())", "((), ((),))", "(((),), ())", "((((),),),)",
	"(1,)", "(1, 1)", "(11,)", "(1, 11)", "(11, 1)", "(1, 1, 1)", "((1,),)", "((1,), 1)", "(1, (1,))", "((1, 1),)", "((1,), (1,))", "(None,)", "(True,)", "(False,)", "(0,)",
	`("",)`, `("", "")`, `("a",)`, `("a", "b")`, `("b", "a")`, `("ab",)`, `("a", "", "b")`, `("", "ab")`, `("ab", "")`, `("aS1;b",)`, `("a,b",)`, `("1",)`, `(("a", "b"),)`, `(("a",), "b")`, `("a", ("b",))`, `("1;S1", "a")`, `("1", "S1;a")`, `(1, "a", True)`, `(1, "a", 1)`,
	`("2", "a", "b", "c", "d")`, `("S1aS1bS1cS1d",)`, `("2", "a", "b", "c", "S1d")`,
}

// P10.2: of each two values that can be hashed the keys are the same just where the values are equal.
func TestKey(t *testing.T) {
	keys := map[string]string{}
	for _, text := range hashed {
		key, err := val.Key(said(t, text))
		again, other := val.Key(said(t, text))
		if err != nil || other != nil || key != again {
			t.Fatalf("%s: %q %q %v %v", text, key, again, err, other)
		}
		if had, is := keys[key]; is {
			t.Errorf("%s and %s have one key", had, text)
		}
		keys[key] = text
	}
	for _, a := range hashed {
		for _, b := range hashed {
			if is, err := val.Equal(said(t, a), said(t, b)); is != (a == b) || err != nil {
				t.Errorf("Equal %s %s: %v %v", a, b, is, err)
			}
		}
	}
}

// P10.2: numbers are the same whatever they came from, and Tuples whatever made them.
func TestKeySame(t *testing.T) {
	big, _ := num.Parse("1" + strings.Repeat("0", 40))
	half, _ := num.Parse("5" + strings.Repeat("0", 39))
	for i, pair := range [][2]val.Value{
		{val.Int(big), val.Int(half.Add(half))},
		{integer(0), val.Int(half.Sub(half))},
		{said(t, "-0"), integer(0)},
		{val.Tuple(), val.Tuple([]val.Value{}...)},
		{val.Tuple(val.Str("ab")), said(t, "('ab',)")},
	} {
		a, err := val.Key(pair[0])
		b, other := val.Key(pair[1])
		if a != b || err != nil || other != nil {
			t.Errorf("%d: %q %q %v %v", i, a, b, err, other)
		}
	}
}

// P10.2: what can't be hashed.
func TestKeyDynamic(t *testing.T) {
	l, d := loop()
	for _, v := range []val.Value{
		val.NewList(), said(t, "[1]"), val.NewDict(), said(t, "{1: 2}"), structOf(t, ""), structOf(t, "a", integer(1)), l, d,
		said(t, "([],)"), said(t, "(1, {})"), val.Tuple(structOf(t, "")), said(t, "(((([],),),),)"), val.Tuple(l),
	} {
		key, err := val.Key(v)
		if key != "" || err != api.ErrDynamic || !errors.Is(err, api.ErrDynamic) {
			t.Errorf("%s: %q %v", val.Repr(v), key, err)
		}
	}
	val.Freeze(l)
	if key, err := val.Key(l); key != "" || err != api.ErrDynamic {
		t.Errorf("a frozen List: %q %v", key, err)
	}
}

// twice lays a value twice into a Tuple, n times.
func twice(n int, v val.Value) val.Value {
	for range n {
		v = val.Tuple(v, v)
	}
	return v
}

// P10.2: how deep Tuples may be, and how many values are looked at.
func TestKeyLimit(t *testing.T) {
	one, list := integer(1), val.NewList()
	side := val.Tuple(one, nest(api.MaxDeep-2, one, inTuple), one)
	for i, c := range []struct {
		value val.Value
		want  error
	}{
		{nest(api.MaxDeep, one, inTuple), nil},
		{nest(api.MaxDeep+1, one, inTuple), api.ErrLimit},
		{nest(api.MaxDeep-1, val.Tuple(), inTuple), nil},
		{nest(api.MaxDeep, val.Tuple(), inTuple), api.ErrLimit},
		{nest(5000, one, inTuple), api.ErrLimit},
		{val.Tuple(side, side, side), nil},
		{val.Tuple(side, val.Tuple(side)), api.ErrLimit},
		{val.Tuple(many(4095, one)...), nil},
		{val.Tuple(many(4096, one)...), api.ErrLimit},
		{val.Tuple(numbers(4095)...), nil},
		{val.Tuple(many(4095, val.Tuple())...), nil},
		{val.Tuple(many(4096, val.Tuple())...), api.ErrLimit},
		{val.Tuple(val.Tuple(many(4093, val.Str(""))...), one), nil},
		{val.Tuple(val.Tuple(many(4094, val.Str(""))...), one), api.ErrLimit},
		{val.Tuple(val.Tuple(many(2046, one)...), val.Tuple(many(2047, one)...)), nil},
		{val.Tuple(val.Tuple(many(2047, one)...), val.Tuple(many(2047, one)...)), api.ErrLimit},
		{twice(11, one), nil},
		{twice(12, one), api.ErrLimit},
		{twice(60, one), api.ErrLimit},
		// Which of the errors is met first: from the outside in, from the left.
		{nest(api.MaxDeep, list, inTuple), api.ErrDynamic},
		{nest(api.MaxDeep+1, list, inTuple), api.ErrLimit},
		{val.Tuple(list, nest(api.MaxDeep, one, inTuple)), api.ErrDynamic},
		{val.Tuple(nest(api.MaxDeep, one, inTuple), list), api.ErrLimit},
		{val.Tuple(val.Tuple(list), nest(api.MaxDeep, one, inTuple)), api.ErrDynamic},
		{val.Tuple(append(many(4094, one), list, one, one)...), api.ErrDynamic},
		{val.Tuple(append(many(4096, one), list)...), api.ErrLimit},
		{val.Tuple(append([]val.Value{list}, many(5000, one)...)...), api.ErrDynamic},
		{val.Tuple(val.Tuple(many(4096, one)...), list), api.ErrLimit},
		{val.Tuple(twice(12, one), list), api.ErrLimit},
		{val.Tuple(twice(10, one), list), api.ErrDynamic},
	} {
		key, err := val.Key(c.value)
		if err != c.want || (key == "") != (err != nil) {
			t.Errorf("%d: %d bytes, %v, want %v", i, len(key), err, c.want)
		}
	}
}

// P10.2: how long a Str is does not count.
func TestKeyLong(t *testing.T) {
	a, b := strings.Repeat("x", 3*api.MaxText), strings.Repeat("x", 3*api.MaxText-1)
	first, err := val.Key(val.Tuple(val.Str(a), val.Str(b)))
	second, other := val.Key(val.Tuple(val.Str(b), val.Str(a)))
	if err != nil || other != nil || first == second {
		t.Error(err, other)
	}
}
