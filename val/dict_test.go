package val_test

import (
	"math/rand"
	"slices"
	"testing"

	"smithy/api"
	"smithy/val"
)

// P10.2: what is set is there, by every key that is equal, and by no other one.
func TestDict(t *testing.T) {
	d := val.NewDict()
	for i, text := range hashed {
		if v, is, err := d.Get(said(t, text)); v != nil || is || err != nil {
			t.Fatalf("%s: %v %v %v", text, v, is, err)
		}
		if err := d.Set(said(t, text), integer(i)); err != nil || d.Len() != i+1 {
			t.Fatalf("%s: %v %d", text, err, d.Len())
		}
	}
	for i, text := range hashed {
		v, is, err := d.Get(said(t, text))
		if !is || err != nil || val.Repr(v) != val.Repr(integer(i)) {
			t.Errorf("%s: %v %v %v", text, v, is, err)
		}
	}
	if keys, is := val.Items(d); !is || len(keys) != len(hashed) {
		t.Error(len(keys), is)
	} else {
		for i, k := range keys {
			reads(t, k, val.Repr(said(t, hashed[i])))
		}
	}
}

// P10.2: a key that is set again keeps its place; one that was taken out and is set again stands last.
func TestDictPlaces(t *testing.T) {
	d := dictOf(t, integer(1), val.Str("a"), integer(2), val.Str("b"), integer(3), val.Str("c"))
	steps := []struct {
		do   func() error
		want string
	}{
		{func() error { return d.Set(integer(1), val.Str("A")) }, `{1: "A", 2: "b", 3: "c"}`},
		{func() error { return d.Set(integer(3), val.None()) }, `{1: "A", 2: "b", 3: None}`},
		{func() error { _, _, err := d.Del(integer(1)); return err }, `{2: "b", 3: None}`},
		{func() error { return d.Set(integer(1), val.Str("Z")) }, `{2: "b", 3: None, 1: "Z"}`},
		{func() error { _, _, err := d.Del(integer(3)); return err }, `{2: "b", 1: "Z"}`},
		{func() error { _, _, err := d.Del(integer(3)); return err }, `{2: "b", 1: "Z"}`},
		{func() error { return d.Set(integer(2), val.Str("y")) }, `{2: "y", 1: "Z"}`},
		{func() error { _, _, err := d.Del(integer(2)); return err }, `{1: "Z"}`},
		{func() error { _, _, err := d.Del(integer(1)); return err }, `{}`},
		{func() error { return d.Set(integer(3), d) }, `{3: ` + "{...}" + `}`},
	}
	for i, step := range steps[:len(steps)-1] {
		if err := step.do(); err != nil {
			t.Fatal(i, err)
		}
		reads(t, d, step.want)
	}
	if err := steps[len(steps)-1].do(); err != nil || d.Len() != 1 {
		t.Error("a Dict that has itself:", err, d.Len())
	}
}

// P10.2: Del is the value that was there, and whether there was one.
func TestDel(t *testing.T) {
	d := dictOf(t, integer(1), val.Str("a"), val.None(), val.None())
	for i, c := range []struct {
		key  string
		want string
	}{{"2", ""}, {"True", ""}, {"1", `"a"`}, {"1", ""}, {"None", "None"}, {"None", ""}, {"()", ""}} {
		v, is, err := d.Del(said(t, c.key))
		if err != nil || is != (c.want != "") || val.Repr(v) != c.want || !is && v != nil {
			t.Errorf("%d: %v %v %v", i, v, is, err)
		}
	}
	if d.Len() != 0 {
		t.Error(d.Len())
	}
}

// P10.2: Key's errors; nothing is changed by them.
func TestDictErrors(t *testing.T) {
	deep, wide := nest(api.MaxDeep+1, integer(1), inTuple), val.Tuple(many(4096, integer(1))...)
	for _, frozen := range []bool{false, true} {
		d := dictOf(t, integer(1), val.Str("a"))
		if frozen {
			val.Freeze(d)
		}
		for _, c := range []struct {
			key  val.Value
			want error
		}{
			{val.NewList(), api.ErrDynamic}, {val.NewDict(), api.ErrDynamic}, {structOf(t, ""), api.ErrDynamic}, {said(t, "(1, [])"), api.ErrDynamic}, {d, api.ErrDynamic},
			{deep, api.ErrLimit}, {wide, api.ErrLimit},
		} {
			if v, is, err := d.Get(c.key); v != nil || is || err != c.want {
				t.Errorf("Get: %v %v %v, want %v", v, is, err, c.want)
			}
			if err := d.Set(c.key, integer(1)); err != c.want {
				t.Errorf("Set: %v, want %v", err, c.want)
			}
			if v, is, err := d.Del(c.key); v != nil || is || err != c.want {
				t.Errorf("Del: %v %v %v, want %v", v, is, err, c.want)
			}
		}
		reads(t, d, `{1: "a"}`)
	}
}

// P10.2: a frozen Dict can be asked alone.
func TestFrozenDict(t *testing.T) {
	d := dictOf(t, integer(1), val.Str("a"), integer(2), val.NewList())
	val.Freeze(d)
	for _, k := range []val.Value{integer(1), integer(2), integer(3), val.None()} {
		if err := d.Set(k, integer(9)); err != api.ErrDynamic {
			t.Errorf("Set %s: %v", val.Repr(k), err)
		}
		if v, is, err := d.Del(k); v != nil || is || err != api.ErrDynamic {
			t.Errorf("Del %s: %v %v %v", val.Repr(k), v, is, err)
		}
	}
	if v, is, err := d.Get(integer(1)); !is || err != nil || val.Repr(v) != `"a"` {
		t.Error(v, is, err)
	}
	if v, is, err := d.Get(integer(3)); v != nil || is || err != nil {
		t.Error(v, is, err)
	}
	reads(t, d, `{1: "a", 2: []}`)
	other := dictOf(t, integer(1), d)
	if err := other.Set(integer(2), integer(3)); err != nil {
		t.Error("what has a frozen one is not frozen:", err)
	}
}

// plainDict is a Dict the plain way: a list of pairs.
type plainDict struct{ keys, values []string }

func (p *plainDict) set(k, v string) {
	if at := slices.Index(p.keys, k); at >= 0 {
		p.values[at] = v
		return
	}
	p.keys, p.values = append(p.keys, k), append(p.values, v)
}

func (p *plainDict) del(k string) (string, bool) {
	at := slices.Index(p.keys, k)
	if at < 0 {
		return "", false
	}
	v := p.values[at]
	p.keys, p.values = slices.Delete(p.keys, at, at+1), slices.Delete(p.values, at, at+1)
	return v, true
}

func (p *plainDict) text() string {
	text := "{"
	for i, k := range p.keys {
		if i > 0 {
			text += ", "
		}
		text += k + ": " + p.values[i]
	}
	return text + "}"
}

// P10.2: random rows of calls, of many sets or many dels, held against a plain list of pairs.
func TestRandomDict(t *testing.T) {
	r := rand.New(rand.NewSource(10))
	var texts []string // the byte 255 reads as it is
	for _, text := range hashed {
		if text != `"\xff"` {
			texts = append(texts, text)
		}
	}
	rounds := 60
	if testing.Short() {
		rounds = 15
	}
	for range rounds {
		d, plain := val.NewDict(), &plainDict{}
		keys, dels := 1+r.Intn(len(texts)), 1+r.Intn(9)
		for range 300 {
			k := texts[r.Intn(keys)]
			switch {
			case r.Intn(10) < dels:
				v, is, err := d.Del(said(t, k))
				want, has := plain.del(k)
				if is != has || err != nil || val.Repr(v) != want {
					t.Fatalf("Del %s: %v %v %v", k, v, is, err)
				}
			default:
				v := integer(r.Intn(1000))
				if err := d.Set(said(t, k), v); err != nil {
					t.Fatal(k, err)
				}
				plain.set(k, val.Repr(v))
			}
			asked := texts[r.Intn(keys)]
			v, is, err := d.Get(said(t, asked))
			at := slices.Index(plain.keys, asked)
			if is != (at >= 0) || err != nil || is && val.Repr(v) != plain.values[at] || d.Len() != len(plain.keys) {
				t.Fatalf("Get %s: %v %v %v", asked, v, is, err)
			}
			if val.Repr(d) != plain.text() {
				t.Fatalf("%s, want %s", val.Repr(d), plain.text())
			}
		}
	}
}

// P10.2: many keys, taken out from the front, in as much time as they are many.
func TestWideDict(t *testing.T) {
	const n = 100000
	d := val.NewDict()
	for i := range n {
		if err := d.Set(integer(i), integer(-i)); err != nil {
			t.Fatal(err)
		}
	}
	for i := range n - 10 {
		if v, is, err := d.Del(integer(i)); !is || err != nil || val.Repr(v) != val.Repr(integer(-i)) {
			t.Fatal(i, v, is, err)
		}
		if i%1000 == 0 {
			if v, is, _ := d.Get(integer(n - 1)); !is || val.Repr(v) != val.Repr(integer(1-n)) || d.Len() != n-i-1 {
				t.Fatal(i, v, is, d.Len())
			}
		}
	}
	d.Set(integer(0), val.None())
	keys, _ := val.Items(d)
	reads(t, val.NewList(keys...), "[99990, 99991, 99992, 99993, 99994, 99995, 99996, 99997, 99998, 99999, 0]")
}
