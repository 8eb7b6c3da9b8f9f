package val_test

import (
	"slices"
	"strings"
	"testing"

	"smithy/api"
	"smithy/val"
)

// P10.1: a Struct has each name with the value in its place, whatever the order in which they come.
func TestStruct(t *testing.T) {
	for _, c := range []struct{ names, fields, repr string }{
		{"", "", "struct()"},
		{"a", "a", "struct(a = 0)"},
		{"a b", "a b", "struct(a = 0, b = 1)"},
		{"b a", "a b", "struct(a = 1, b = 0)"},
		{"c a b", "a b c", "struct(a = 1, b = 2, c = 0)"},
		{"b c a", "a b c", "struct(a = 2, b = 0, c = 1)"},
		{"a_ aa a A _ a0", "A _ a a0 a_ aa", "struct(A = 3, _ = 4, a = 2, a0 = 5, a_ = 0, aa = 1)"},
	} {
		names := strings.Fields(c.names)
		v := structOf(t, c.names, numbers(len(names))...)
		if v.Kind() != api.VStruct {
			t.Errorf("%q: Kind %d", c.names, v.Kind())
		}
		reads(t, v, c.repr)
		if got := val.Fields(v); !slices.Equal(got, strings.Fields(c.fields)) {
			t.Errorf("%q: Fields %q", c.names, got)
		}
		for i, name := range names {
			x, is := val.Field(v, name)
			if !is || val.Repr(x) != val.Repr(integer(i)) {
				t.Errorf("%q: Field %s: %v %v", c.names, name, x, is)
			}
		}
	}
}

// P10.1: a name is any text, the empty one too, and one of bytes that are none of a name.
func TestStructOddNames(t *testing.T) {
	names := []string{"b\xff", "", "a b", "\x00", "b"}
	v, err := val.Struct(names, numbers(5)...)
	if err != nil || !slices.Equal(val.Fields(v), []string{"", "\x00", "a b", "b", "b\xff"}) {
		t.Fatalf("%q %v", val.Fields(v), err)
	}
	for i, name := range names {
		if x, is := val.Field(v, name); !is || val.Repr(x) != val.Repr(integer(i)) {
			t.Errorf("Field %q: %v %v", name, x, is)
		}
	}
}

// P10.1: as many names as values, and each once.
func TestStructShape(t *testing.T) {
	for _, c := range []struct {
		names  string
		values int
	}{
		{"", 1}, {"a", 0}, {"a", 2}, {"a b", 1}, {"a b", 3}, {"a b", 0}, {"a a", 2}, {"a b a", 3}, {"b a a", 3}, {"a a b", 3}, {"c b a c", 4}, {"a a", 1}, {"a a", 3},
	} {
		v, err := val.Struct(strings.Fields(c.names), numbers(c.values)...)
		if v != nil || err != api.ErrShape {
			t.Errorf("%q of %d: %v %v", c.names, c.values, v, err)
		}
	}
	if v, err := val.Struct([]string{"", ""}, numbers(2)...); v != nil || err != api.ErrShape {
		t.Errorf("the empty name twice: %v %v", v, err)
	}
	if v, err := val.Struct(nil); err != nil || val.Repr(v) != "struct()" {
		t.Errorf("nothing: %v %v", v, err)
	}
}

// P10.1: what is no Struct has no fields, and a Struct no other ones.
func TestNoField(t *testing.T) {
	v := structOf(t, "a bb c", numbers(3)...)
	for _, name := range []string{"", "b", "bbb", "A", "d", "`", "a ", "a bb"} {
		if x, is := val.Field(v, name); x != nil || is {
			t.Errorf("Field %q: %v %v", name, x, is)
		}
	}
	for _, c := range kinds(t) {
		if c.value.Kind() == api.VStruct {
			continue
		}
		if x, is := val.Field(c.value, "a"); x != nil || is {
			t.Errorf("%s: Field: %v %v", c.repr, x, is)
		}
		if l := val.Fields(c.value); len(l) != 0 {
			t.Errorf("%s: Fields: %q", c.repr, l)
		}
	}
	if x, is := val.Field(said(t, `{"a": 1}`), "a"); x != nil || is {
		t.Error("a Dict's key is no field:", x, is)
	}
}

// P10.1: wide Structs, too.
func TestWideStruct(t *testing.T) {
	const n = 3000
	names := make([]string, n)
	for i := range names {
		names[i] = val.Repr(integer((i * 7919) % n))
	}
	v, err := val.Struct(names, numbers(n)...)
	if err != nil || !slices.IsSorted(val.Fields(v)) || len(val.Fields(v)) != n {
		t.Fatal(err)
	}
	for i, name := range names {
		if x, is := val.Field(v, name); !is || val.Repr(x) != val.Repr(integer(i)) {
			t.Fatal(name, x, is)
		}
	}
	names[n-1] = names[0]
	if v, err := val.Struct(names, numbers(n)...); v != nil || err != api.ErrShape {
		t.Error(err)
	}
}
