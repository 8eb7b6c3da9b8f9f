package val_test

import (
	"math"
	"strings"
	"testing"

	"smithy/api"
	"smithy/num"
	"smithy/val"
)

// kind is a value with all that is asked of it by itself.
type kind struct {
	value val.Value
	kind  int
	typed string
	truth bool
	len   int // -1: none
	repr  string
}

// kinds is values of each kind that is made here, empty and not.
func kinds(t testing.TB) []kind {
	return []kind{
		{val.None(), api.VNone, "NoneType", false, -1, "None"},
		{val.Bool(true), api.VBool, "bool", true, -1, "True"},
		{val.Bool(false), api.VBool, "bool", false, -1, "False"},
		{integer(0), api.VInt, "int", false, -1, "0"},
		{val.Int(num.Num{}), api.VInt, "int", false, -1, "0"},
		{integer(1), api.VInt, "int", true, -1, "1"},
		{integer(-1), api.VInt, "int", true, -1, "-1"},
		{integer(math.MinInt64), api.VInt, "int", true, -1, "-9223372036854775808"},
		{val.Str(""), api.VStr, "string", false, 0, `""`},
		{val.Str("a"), api.VStr, "string", true, 1, `"a"`},
		{val.Str("0"), api.VStr, "string", true, 1, `"0"`},
		{val.Str("\x00"), api.VStr, "string", true, 1, `"\x00"`},
		{val.Str("ä\n"), api.VStr, "string", true, 3, `"ä\n"`},
		{val.NewList(), api.VList, "list", false, 0, "[]"},
		{val.NewList(val.None()), api.VList, "list", true, 1, "[None]"},
		{val.NewList(numbers(3)...), api.VList, "list", true, 3, "[0, 1, 2]"},
		{val.Tuple(), api.VTuple, "tuple", false, 0, "()"},
		{val.Tuple(val.Tuple()), api.VTuple, "tuple", true, 1, "((),)"},
		{val.Tuple(numbers(2)...), api.VTuple, "tuple", true, 2, "(0, 1)"},
		{val.NewDict(), api.VDict, "dict", false, 0, "{}"},
		{dictOf(t, integer(0), val.None()), api.VDict, "dict", true, 1, "{0: None}"},
		{dictOf(t, integer(2), integer(1), integer(0), val.Str("x")), api.VDict, "dict", true, 2, `{2: 1, 0: "x"}`},
		{structOf(t, ""), api.VStruct, "struct", true, -1, "struct()"},
		{structOf(t, "a", val.None()), api.VStruct, "struct", true, -1, "struct(a = None)"},
	}
}

// P10.3, P10.4: what each kind is, counts as, has, and reads.
func TestKinds(t *testing.T) {
	for _, c := range kinds(t) {
		if got := c.value.Kind(); got != c.kind {
			t.Errorf("%s: Kind %d", c.repr, got)
		}
		if got := val.Type(c.value); got != c.typed {
			t.Errorf("%s: Type %s", c.repr, got)
		}
		if got := val.Truth(c.value); got != c.truth {
			t.Errorf("%s: Truth %v", c.repr, got)
		}
		n, is := val.Len(c.value)
		if is != (c.len >= 0) || n != max(0, c.len) {
			t.Errorf("%s: Len %d %v", c.repr, n, is)
		}
		reads(t, c.value, c.repr)
	}
}

// P10.3: a Dict that had keys has none when they were taken out.
func TestEmptied(t *testing.T) {
	d := dictOf(t, integer(1), integer(2), integer(3), integer(4))
	for i, k := range []int{1, 3} {
		if _, is, err := d.Del(integer(k)); !is || err != nil {
			t.Fatal(is, err)
		}
		n, is := val.Len(d)
		if n != 1-i || !is || d.Len() != n || val.Truth(d) != (n > 0) {
			t.Error(n, is, d.Len(), val.Truth(d))
		}
	}
}

// P10.1: AsInt and AsStr of what is an Int, a Str, and of all else nothing.
func TestAs(t *testing.T) {
	for _, c := range kinds(t) {
		n, is := val.AsInt(c.value)
		if c.kind == api.VInt {
			if !is || n.Text() != c.repr {
				t.Errorf("%s: AsInt %s %v", c.repr, n.Text(), is)
			}
		} else if is || n.Cmp(num.Num{}) != 0 {
			t.Errorf("%s: AsInt %s %v", c.repr, n.Text(), is)
		}
		s, is := val.AsStr(c.value)
		if c.kind == api.VStr {
			if !is || len(s) != c.len || val.Text(c.value) != s {
				t.Errorf("%s: AsStr %q %v", c.repr, s, is)
			}
		} else if is || s != "" {
			t.Errorf("%s: AsStr %q %v", c.repr, s, is)
		}
	}
	big, err := num.Parse("-" + strings.Repeat("9", 2400))
	if n, is := val.AsInt(val.Int(big)); err != nil || !is || n.Cmp(big) != 0 {
		t.Error("a great number:", is, err)
	}
	long := strings.Repeat("\x00\xff", api.MaxText)
	if s, is := val.AsStr(val.Str(long)); !is || s != long {
		t.Error("a long Str:", len(s), is)
	}
}

// P10.1: Items of a List, a Tuple, and the keys of a Dict, as they are now.
func TestItems(t *testing.T) {
	for _, c := range []struct{ value, want string }{
		{"[]", "[]"}, {"()", "[]"}, {"{}", "[]"},
		{"[1]", "[1]"}, {"(1,)", "[1]"}, {"{1: 2}", "[1]"},
		{"[2, [3], 1]", "[2, [3], 1]"}, {"(2, (3,), 1)", "[2, (3,), 1]"}, {`{2: 1, "a": [], (3,): 4}`, `[2, "a", (3,)]`},
	} {
		l, is := val.Items(said(t, c.value))
		if got := val.Repr(val.NewList(l...)); !is || got != c.want {
			t.Errorf("%s: %s %v", c.value, got, is)
		}
	}
	d := dictOf(t, integer(1), integer(0), integer(2), integer(0), integer(3), integer(0))
	before, _ := val.Items(d)
	d.Del(integer(2))
	d.Set(integer(1), integer(9))
	d.Set(integer(2), integer(9))
	after, is := val.Items(d)
	if got := val.Repr(val.Tuple(val.NewList(before...), val.NewList(after...))); got != "([1, 2, 3], [1, 3, 2])" || !is {
		t.Error(got, is)
	}
	for _, c := range kinds(t) {
		has := c.kind == api.VList || c.kind == api.VTuple || c.kind == api.VDict
		l, is := val.Items(c.value)
		if is != has || len(l) != max(0, c.len) && has || !has && l != nil {
			t.Errorf("%s: %v %v", c.repr, l, is)
		}
	}
}

// above is a value of a layer above: of a kind, as far as it shows here.
type above int

func (a *above) Kind() int { return int(*a) }

// P10.3, P10.5: functions, depsets and ranges are of their kind, can't be hashed, changed or put in order, and each is the same as itself.
func TestAbove(t *testing.T) {
	for i, name := range []string{"function", "depset", "range"} {
		a := above(api.VFunc + i)
		if got := val.Type(&a); got != name {
			t.Errorf("Type %s, want %s", got, name)
		}
		for _, v := range []val.Value{&a, val.Tuple(&a)} {
			if key, err := val.Key(v); key != "" || err != api.ErrDynamic {
				t.Errorf("%s: Key %q %v", name, key, err)
			}
		}
		if n, is := val.Len(&a); n != 0 || is {
			t.Errorf("%s: Len %d %v", name, n, is)
		}
		if l, is := val.Items(&a); l != nil || is {
			t.Errorf("%s: Items %v %v", name, l, is)
		}
		if is, err := val.Less(&a, &a); is || err != api.ErrDynamic {
			t.Errorf("%s: Less %v %v", name, is, err)
		}
		if !val.Frozen(&a) {
			t.Errorf("%s: not Frozen", name)
		}
		for _, c := range kinds(t) {
			equal(t, name+" and "+c.repr, &a, c.value, false, nil)
		}
	}
	f := above(api.VFunc)
	equal(t, "a function and itself", val.NewList(&f), val.NewList(&f), true, nil)
	less(t, "behind a function", val.NewList(&f, integer(1)), val.NewList(&f, integer(2)), true, nil)
}
