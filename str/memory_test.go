package str_test

import (
	"slices"
	"testing"

	"smithy/str"
	"smithy/val"
)

// P0.4: lists that are handed out are new memory, spare room too.
func TestHandedOutIsNew(t *testing.T) {
	const s = "a b  c d e"
	for range 3 {
		first, err := str.Split(s, " ", -1)
		second, otherErr := str.Split(s, " ", -1)
		spoil(first)
		isList(t, "the other Split", second, otherErr, []string{"a", "b", "", "c", "d", "e"}, err)
		words, other := str.Words(s), str.Words(s)
		spoil(words)
		isList(t, "the other Words", other, nil, []string{"a", "b", "c", "d", "e"}, nil)
		one, _ := str.Split(s, ",", -1)
		none := str.Words(" ")
		spoil(append(one, "x"))
		spoil(append(none, "x"))
		isList(t, "Words of blanks", str.Words(" "), nil, nil, nil)
		oneMore, err := str.Split(s, ",", 0)
		isList(t, "Split by what is not there", oneMore, err, []string{s}, nil)
	}
}

// roomy is a list with room behind it that has texts in it.
func roomy(l ...string) []string {
	all := append(slices.Clone(l), "behind", "behind", "behind")
	return all[:len(l)]
}

// P0.4: lists that are handed in are not changed, and what lies behind their length is neither read nor written.
func TestGivenStays(t *testing.T) {
	l, names, values := roomy("1", "2"), roomy("x", "y"), roomy("X", "Y")
	for range 2 {
		if s, err := str.Join(",", l); s != "1,2" || err != nil {
			t.Error(s, err)
		}
		if s, err := str.Format("{}{}{x}{y}", l, names, values); s != "12XY" || err != nil {
			t.Error(s, err)
		}
		for _, text := range []string{"{2}", "{}{}{}", "{behind}"} {
			if s, err := str.Format(text, l, names, values); s != "" || err == nil {
				t.Error(text, s, err)
			}
		}
		if s, err := str.Format("{y}", nil, names, values[:1]); s != "" || err == nil {
			t.Error(s, err)
		}
		if s, err := str.Format("{y}", nil, names[:1], values); s != "" || err == nil {
			t.Error(s, err)
		}
	}
	for i, list := range [][]string{l, names, values} {
		want := append([][]string{{"1", "2"}, {"x", "y"}, {"X", "Y"}}[i], "behind", "behind", "behind")
		if !slices.Equal(list[:5], want) {
			t.Error("changed:", list[:5])
		}
	}
	two := val.NewList(integer(1))
	given := []val.Value{two, val.Str("a"), val.None()}
	for range 2 {
		if s, err := str.Percent("%s%r", given[:2]); s != `[1]"a"` || err != nil {
			t.Error(s, err)
		}
		if s, err := str.Percent("%s%r%s", given[:2]); s != "" || err == nil {
			t.Error(s, err)
		}
	}
	if given[0] != val.Value(two) || val.Repr(val.NewList(given...)) != `[[1], "a", None]` || val.Frozen(two) {
		t.Error("changed:", val.Repr(val.NewList(given...)))
	}
}

// P0.4: nothing and an empty list are the same.
func TestNothing(t *testing.T) {
	for _, l := range [][]string{nil, {}} {
		if s, err := str.Join(",", l); s != "" || err != nil {
			t.Error(s, err)
		}
		if s, err := str.Format("{{a", l, l, l); s != "{a" || err != nil {
			t.Error(s, err)
		}
		if s, err := str.Format("{}", l, l, l); s != "" || err == nil {
			t.Error(s, err)
		}
	}
	for _, l := range [][]val.Value{nil, {}} {
		if s, err := str.Percent("a%%", l); s != "a%" || err != nil {
			t.Error(s, err)
		}
	}
}
