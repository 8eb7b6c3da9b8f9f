package val_test

import (
	"strings"
	"testing"

	"smithy/api"
	"smithy/lex"
	"smithy/num"
	"smithy/val"
)

// P10.4: each kind within each other one.
func TestRepr(t *testing.T) {
	s := structOf(t, "z a", said(t, "[2]"), said(t, "(1,)"))
	for _, c := range []struct {
		value val.Value
		want  string
	}{
		{s, "struct(a = (1,), z = [2])"},
		{val.NewList(s, s), "[struct(a = (1,), z = [2]), struct(a = (1,), z = [2])]"},
		{val.Tuple(s), "(struct(a = (1,), z = [2]),)"},
		{dictOf(t, integer(1), s), "{1: struct(a = (1,), z = [2])}"},
		{structOf(t, "d t", val.NewDict(), val.Tuple()), "struct(d = {}, t = ())"},
		{said(t, `[None, True, [False, []], {"a": (), (1,): {}}]`), `[None, True, [False, []], {"a": (), (1,): {}}]`},
		{said(t, "((1,), (1, 2), ())"), "((1,), (1, 2), ())"},
		{said(t, `["\n\t\\\"'", 'x\x01\x7f']`), `["\n\t\\\"'", "x\x01\x7f"]`},
	} {
		reads(t, c.value, c.want)
		if got := val.Text(c.value); got != c.want {
			t.Errorf("Text %s, want %s", got, c.want)
		}
	}
	for b := range 256 {
		s := string([]byte{byte(b)})
		reads(t, val.Str(s), lex.Quote(s))
		reads(t, val.NewList(val.Str(s)), "["+lex.Quote(s)+"]")
	}
}

// P10.4: Text is a Str itself, also a long one; of all else Repr.
func TestText(t *testing.T) {
	for _, s := range []string{"", "a", "a\nb\"", "\x00\xff", "None", strings.Repeat("x\n", api.MaxText)} {
		if got := val.Text(val.Str(s)); got != s {
			t.Errorf("%q, want %q", short(got), short(s))
		}
		if got := val.Text(val.Tuple(val.Str(s))); got != val.Repr(val.Tuple(val.Str(s))) || got == s {
			t.Errorf("of a Tuple: %q", short(got))
		}
	}
	for _, c := range kinds(t) {
		if c.kind != api.VStr && val.Text(c.value) != c.repr {
			t.Errorf("%s: %s", c.repr, val.Text(c.value))
		}
	}
}

// P10.4: what lies within MaxDeep others, of each kind, empty or not; what lies within one fewer, and what is no such thing, is written.
func TestReprDeep(t *testing.T) {
	for _, outer := range wraps(t) {
		frame := val.Repr(nest(api.MaxDeep, val.Str("@"), outer.lay))
		before, after, is := strings.Cut(frame, `"@"`)
		if !is || strings.Contains(frame, "...") {
			t.Fatalf("%s: %s", outer.name, frame)
		}
		for _, c := range kinds(t) {
			want := c.repr
			if c.kind >= api.VList {
				want = "..."
			}
			reads(t, nest(api.MaxDeep, c.value, outer.lay), before+want+after)
			reads(t, nest(api.MaxDeep-1, val.NewList(c.value), outer.lay), strings.TrimSuffix(before, opener(outer.name))+"["+want+"]"+strings.TrimPrefix(after, closer(outer.name)))
		}
		for _, v := range []val.Value{val.NewList(), val.Tuple(), val.NewDict(), structOf(t, ""), said(t, "[1]"), said(t, "(1, 'a')"), said(t, "{1: 2}"), structOf(t, "a", integer(1))} {
			if got := val.Repr(nest(api.MaxDeep-1, v, outer.lay)); strings.Contains(got, "...") || !strings.Contains(got, val.Repr(v)) {
				t.Errorf("%s: %s", outer.name, got)
			}
		}
		for _, n := range []int{1, 2, 1000} {
			reads(t, nest(api.MaxDeep+n, integer(1), outer.lay), before+"..."+after)
		}
	}
}

func opener(name string) string {
	return map[string]string{"list": "[", "tuple": "(", "dict": "{None: ", "struct": "struct(a = "}[name]
}

func closer(name string) string {
	return map[string]string{"list": "]", "tuple": ",)", "dict": "}", "struct": ")"}[name]
}

// P10.4: all four count together, and a Dict's keys lie as deep as its values.
func TestReprDeepTogether(t *testing.T) {
	v := val.Value(integer(1))
	for range api.MaxDeep / 4 {
		for _, w := range wraps(t) {
			v = w.lay(v)
		}
	}
	if got := val.Repr(v); strings.Contains(got, "...") {
		t.Error(got)
	}
	if got := val.Repr(val.NewList(v)); strings.Count(got, "...") != 1 {
		t.Error(got)
	}
	d := dictOf(t, val.Tuple(), val.Tuple())
	reads(t, nest(api.MaxDeep-2, d, inList), strings.Repeat("[", api.MaxDeep-2)+"{(): ()}"+strings.Repeat("]", api.MaxDeep-2))
	reads(t, nest(api.MaxDeep-1, d, inList), strings.Repeat("[", api.MaxDeep-1)+"{...: ...}"+strings.Repeat("]", api.MaxDeep-1))
	reads(t, nest(api.MaxDeep, d, inList), strings.Repeat("[", api.MaxDeep)+"..."+strings.Repeat("]", api.MaxDeep))
	side := val.NewList(integer(1), nest(api.MaxDeep-1, val.NewList(), inList), integer(2))
	reads(t, side, "[1, "+strings.Repeat("[", api.MaxDeep-1)+"..."+strings.Repeat("]", api.MaxDeep-1)+", 2]")
}

// P10.4: a List that has itself is written as deep as all are.
func TestReprLoop(t *testing.T) {
	l, d := loop()
	inner := strings.Repeat("[{None: ", api.MaxDeep/2) + "..." + strings.Repeat("}]", api.MaxDeep/2)
	reads(t, l, inner)
	reads(t, d, "{None: "+strings.TrimSuffix(strings.Replace(inner, "...", "[...]", 1)[len("[{None: "):], "}]")+"}")
}

// P10.4: of what is too long the first MaxText bytes: at every place at which it can be cut.
func TestReprCut(t *testing.T) {
	deep := nest(api.MaxDeep, val.NewList(), inList)
	tail := []val.Value{
		val.None(), val.Bool(false), integer(-12345), val.Str("a\x01\n\"b"), said(t, "[1, 'b']"), said(t, "(1,)"), said(t, "(1, 2)"), said(t, "{1: 'a', (2,): 3}"),
		structOf(t, "abc d", integer(1), integer(2)), val.Tuple(), val.NewDict(), deep, val.None(),
	}
	whole := val.Repr(val.NewList(tail...))
	most := api.MaxText
	for room := range len(whole) + 20 {
		fill := val.Str(strings.Repeat("x", most-room-5))
		got := val.Repr(val.NewList(append([]val.Value{fill}, tail...)...))
		want := `["` + strings.Repeat("x", most-room-5) + `", ` + whole[1:]
		if want = want[:min(len(want), most)]; got != want {
			t.Fatalf("room %d: %q, want %q", room, got[most-room-5:], want[most-room-5:])
		}
	}
}

// P10.4: texts about MaxText long.
func TestReprLong(t *testing.T) {
	for n := api.MaxText - 5; n <= api.MaxText+5; n++ {
		for _, piece := range []string{"x", "\n", "\x00", "\xff"} {
			s := strings.Repeat(piece, n)
			want := lex.Quote(s)
			reads(t, val.Str(s), want[:min(len(want), api.MaxText)])
		}
		name := strings.Repeat("n", n)
		s, err := val.Struct([]string{name}, integer(1))
		want := "struct(" + name + " = 1)"
		if err != nil {
			t.Fatal(err)
		}
		reads(t, s, want[:min(len(want), api.MaxText)])
	}
	half := strings.Repeat("ab\n", api.MaxText/9)
	want := lex.Quote(half)
	reads(t, val.Tuple(val.Str(half), val.Str(half), val.Str(half)), ("(" + want + ", " + want + ", " + want + ")")[:api.MaxText])
	digits := strings.Repeat("123", 800)
	n, err := num.Parse(digits)
	if err != nil {
		t.Fatal(err)
	}
	for range 5 {
		n = n.Mul(n)
	}
	digits = n.Text()
	if len(digits) <= api.MaxText {
		t.Fatal(len(digits))
	}
	reads(t, val.Int(n), digits[:api.MaxText])
}

// P10.4: what has others many times over is cut as it goes, and takes no longer for it.
func TestReprWide(t *testing.T) {
	for _, lay := range []func(v val.Value) val.Value{
		func(v val.Value) val.Value { return val.NewList(v, v) },
		func(v val.Value) val.Value { return val.Tuple(v, v) },
		func(v val.Value) val.Value { return dictOf(t, integer(1), v, integer(2), v) },
		func(v val.Value) val.Value { return structOf(t, "a b", v, v) },
	} {
		v := nest(100, val.Value(integer(1)), lay)
		whole := val.Repr(nest(20, integer(1), lay))
		if got := val.Repr(v); len(got) != api.MaxText || !strings.Contains(got, "...") {
			t.Error(len(got), short(got))
		}
		if len(whole) != api.MaxText {
			t.Error(len(whole))
		}
	}
	l := many(2_000_000, val.NewList())
	got := val.Repr(val.NewList(l...))
	if want := "[" + strings.Repeat("[], ", api.MaxText/4); got != want[:api.MaxText] {
		t.Error(short(got))
	}
	dict := val.NewDict()
	for i := range 20000 {
		dict.Set(integer(i), val.NewList())
	}
	if got := val.Repr(dict); len(got) != api.MaxText || !strings.HasPrefix(got, "{0: [], 1: [], ") {
		t.Error(len(got), short(got))
	}
}
