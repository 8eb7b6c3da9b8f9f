package list_test

import (
	"strings"
	"testing"

	"smithy/api"
	"smithy/list"
	"smithy/num"
	"smithy/parse"
	"smithy/val"
)

// said is the value of an expression that has to be one.
func said(t testing.TB, text string) val.Value {
	t.Helper()
	l, err := parse.Expr(text)
	if err != nil {
		t.Fatalf("%s: %v", text, err)
	}
	v, err := val.Of(l)
	if err != nil {
		t.Fatalf("%s: %v", text, err)
	}
	return v
}

// items is those of an expression that has some.
func items(t testing.TB, text string) []val.Value {
	t.Helper()
	l, is := val.Items(said(t, text))
	if !is {
		t.Fatal(text)
	}
	return l
}

func n(k int) num.Num { return num.Of(int64(k)) }

func integer(k int) val.Value { return val.Int(n(k)) }

// far is a number beyond all ints.
func far() num.Num { return num.Of(1 << 62).Mul(num.Of(1 << 62)) }

// edges are the last ints and those next to them, within and beyond.
func edges() []num.Num {
	least, greatest := num.Of(-1<<63), num.Of(1<<63-1)
	return []num.Num{far(), far().Neg(), least, least.Add(n(1)), least.Sub(n(1)), greatest, greatest.Sub(n(1)), greatest.Add(n(1)), num.Of(1 << 32), num.Of(-1 << 32)}
}

// rangeOf is a range that has to be one.
func rangeOf(t testing.TB, from, to, step int) val.Value {
	t.Helper()
	v, err := list.Range(n(from), n(to), n(step))
	if err != nil {
		t.Fatal(from, to, step, err)
	}
	return v
}

// structOf is a Struct that has to be one.
func structOf(t testing.TB, names string, l ...val.Value) val.Value {
	t.Helper()
	v, err := val.Struct(strings.Fields(names), l...)
	if err != nil {
		t.Fatal(names, err)
	}
	return v
}

// many is n times v.
func many(n int, v val.Value) []val.Value {
	l := make([]val.Value, n)
	for i := range l {
		l[i] = v
	}
	return l
}

// numbers is as many Ints, each another one.
func numbers(n int) []val.Value {
	l := make([]val.Value, n)
	for i := range l {
		l[i] = integer(i)
	}
	return l
}

// nest lays v into n Tuples.
func nest(n int, v val.Value) val.Value {
	for range n {
		v = val.Tuple(v)
	}
	return v
}

// above is a value of a layer above, of a kind, which tells nothing more of itself.
type above int

func (a *above) Kind() int { return int(*a) }

// rowless is values of all the kinds that have no items by their places, but Dicts.
func rowless(t testing.TB) []val.Value {
	function, deps := above(api.VFunc), above(api.VDeps)
	return []val.Value{val.None(), val.Bool(true), integer(0), integer(5), structOf(t, ""), structOf(t, "a", val.NewList(integer(1))), &function, &deps, nil}
}

// isValue holds an answer against what it has to be, by its Repr; beside an error there is none.
func isValue(t *testing.T, what string, got val.Value, err error, want string, wantErr error) {
	t.Helper()
	text := ""
	if got != nil {
		text = val.Repr(got)
	}
	if text != want || err != wantErr {
		t.Errorf("%s: %.90s, %v; want %.90s, %v", what, text, err, want, wantErr)
	}
}

// isList does so with a list.
func isList(t *testing.T, what string, got []val.Value, err error, want string, wantErr error) {
	t.Helper()
	if wantErr != nil {
		if len(got) > 0 || err != wantErr {
			t.Errorf("%s: %d items, %v; want %v", what, len(got), err, wantErr)
		}
		return
	}
	isValue(t, what, val.NewList(got...), err, want, nil)
}

// isError does so with an error alone.
func isError(t *testing.T, what string, err, want error) {
	t.Helper()
	if err != want {
		t.Errorf("%s: %v; want %v", what, err, want)
	}
}

// reads holds a value's Repr against the text that it has to have.
func reads(t *testing.T, what string, v val.Value, want string) {
	t.Helper()
	isValue(t, what, v, nil, want, nil)
}

// spoil writes over all that a list has, spare room too.
func spoil(l []val.Value) {
	for i := range l[:cap(l)] {
		l[:cap(l)][i] = val.None()
	}
}
