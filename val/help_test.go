package val_test

import (
	"strings"
	"testing"

	"smithy/api"
	"smithy/num"
	"smithy/parse"
	"smithy/val"
)

// said is the value of an expression that has to be one.
func said(t testing.TB, text string) val.Value {
	t.Helper()
	v, err := val.Of(nodes(t, text))
	if err != nil {
		t.Fatalf("%s: %v", text, err)
	}
	return v
}

// nodes is the tree of an expression.
func nodes(t testing.TB, text string) []api.Node {
	t.Helper()
	l, err := parse.Expr(text)
	if err != nil {
		t.Fatalf("%s: %v", text, err)
	}
	return l
}

func integer(n int) val.Value { return val.Int(num.Of(int64(n))) }

// structOf is a Struct that has to be one.
func structOf(t testing.TB, names string, l ...val.Value) val.Value {
	t.Helper()
	v, err := val.Struct(strings.Fields(names), l...)
	if err != nil {
		t.Fatal(names, err)
	}
	return v
}

// dictOf is a Dict of what is key, value, key, value ..
func dictOf(t testing.TB, l ...val.Value) *val.Dict {
	t.Helper()
	d := val.NewDict()
	for i := 0; i < len(l); i += 2 {
		if err := d.Set(l[i], l[i+1]); err != nil {
			t.Fatal(err)
		}
	}
	return d
}

// wrap is one way of laying a value into another one.
type wrap struct {
	name string
	lay  func(v val.Value) val.Value
}

func wraps(t testing.TB) []wrap {
	return []wrap{
		{"list", func(v val.Value) val.Value { return val.NewList(v) }},
		{"tuple", func(v val.Value) val.Value { return val.Tuple(v) }},
		{"dict", func(v val.Value) val.Value { return dictOf(t, val.None(), v) }},
		{"struct", func(v val.Value) val.Value { return structOf(t, "a", v) }},
	}
}

func inTuple(v val.Value) val.Value { return val.Tuple(v) }

func inList(v val.Value) val.Value { return val.NewList(v) }

// nest lays v into n others.
func nest(n int, v val.Value, lay func(v val.Value) val.Value) val.Value {
	for range n {
		v = lay(v)
	}
	return v
}

// loop is a List that has itself: by a Dict, as nothing here changes a List.
func loop() (*val.List, *val.Dict) {
	d := val.NewDict()
	l := val.NewList(d)
	if err := d.Set(val.None(), l); err != nil {
		panic(err)
	}
	return l, d
}

// many is n times v.
func many(n int, v val.Value) []val.Value {
	l := make([]val.Value, n)
	for i := range l {
		l[i] = v
	}
	return l
}

// numbers is as many Ints, each another one.
func numbers(n int) []val.Value {
	l := make([]val.Value, n)
	for i := range l {
		l[i] = integer(i)
	}
	return l
}

// reads holds a value's Repr against the text that it has to have.
func reads(t *testing.T, v val.Value, want string) {
	t.Helper()
	if got := val.Repr(v); got != want {
		t.Errorf("Repr %s, want %s", short(got), short(want))
	}
}

// short is a text as a fault shows it.
func short(s string) string {
	if len(s) > 200 {
		return s[:80] + ".." + s[len(s)-80:]
	}
	return s
}

// spoil writes over all that a list has, spare room too.
func spoil[T any](l []T, by T) {
	for i := range l[:cap(l)] {
		l[:cap(l)][i] = by
	}
}
