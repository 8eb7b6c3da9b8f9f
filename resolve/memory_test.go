package resolve_test

import (
	"errors"
	"reflect"
	"slices"
	"testing"

	"smithy/api"
	"smithy/resolve"
)

const several = "load('m', 'a', b = 'c')\nx, y = a, b\ndef f(p, q = [x for x in y]):\n r = [s for s, t in p]\n return len(r)\ndef g(): pass\ndef h(u): v = u"

// spoil writes over all that a list has, spare room too.
func spoil[T any](l []T, by T) {
	for i := range l[:cap(l)] {
		l[:cap(l)][i] = by
	}
}

// P8.2: what is answered is new memory each time: whatever a caller writes into it, the next answer is as it was.
func TestNewMemory(t *testing.T) {
	l := parsed(t, several)
	given := []string{"c", "len"}
	uses, funcs, err := resolve.Resolve(l, given...)
	wantUses, wantFuncs := slices.Clone(uses), slices.Clone(funcs)
	for i := range wantFuncs {
		wantFuncs[i].Names = slices.Clone(wantFuncs[i].Names)
	}
	if err != nil || len(uses) == 0 || len(funcs) != 4 {
		t.Fatal(uses, funcs, err)
	}
	for range 3 {
		otherUses, otherFuncs, _ := resolve.Resolve(l, given...)
		for i := range funcs {
			spoil(funcs[i].Names, "spoilt")
		}
		spoil(uses, resolve.Use{Node: 71, Scope: 72, Slot: 73})
		spoil(funcs, resolve.Func{Node: 74, Params: 75, Slots: 76, Names: []string{"?"}})
		if !reflect.DeepEqual(otherUses, wantUses) || !reflect.DeepEqual(otherFuncs, wantFuncs) {
			t.Fatal("of two answers:", otherUses, otherFuncs)
		}
		uses, funcs, err = resolve.Resolve(l, given...)
		if err != nil || !reflect.DeepEqual(uses, wantUses) || !reflect.DeepEqual(funcs, wantFuncs) {
			t.Fatal("again:", uses, funcs, err)
		}
	}
}

// P8.2, P0.4: no two lists of one answer share anything.
func TestNamesShareNothing(t *testing.T) {
	for i := range 4 {
		_, funcs, err := resolve.Resolve(parsed(t, several), "len")
		if err != nil {
			t.Fatal(err)
		}
		spoil(funcs[i].Names, "spoilt")
		for k, want := range [][]string{{"a", "b", "x", "y", "f", "g", "h"}, {"p", "q", "r"}, nil, {"u", "v"}} {
			if k != i && !slices.Equal(funcs[k].Names, want) {
				t.Error(i, k, funcs[k].Names)
			}
		}
	}
}

// P8.2: an error is a new one each time, and all else is told anew behind it.
func TestErrorsAnew(t *testing.T) {
	l := parsed(t, "x = 1\ny")
	for _, nodes := range [][]api.Node{l, nil} {
		_, _, one := resolve.Resolve(nodes)
		_, _, other := resolve.Resolve(nodes)
		var a, b *api.At
		if !errors.As(one, &a) || !errors.As(other, &b) || a == b || *a != *b {
			t.Error(one, other)
		}
	}
	if _, _, err := resolve.Resolve(l); !errors.Is(err, api.ErrResolve) || errors.Is(err, api.ErrShape) {
		t.Error(err)
	}
	treeSays(t, "then with y", l, "x:g0 y:p0", "0/0 x", "y")
	unbound(t, "then without", l, 6)
}

// P0.4: the nodes and the names that are passed in stay as they are, and so does what lies behind them; neither is kept.
func TestArgumentsStay(t *testing.T) {
	l := parsed(t, several)
	room := append(slices.Clone(l), api.Node{Op: 71, N: 72, Pos: 73, S: "74", Kids: []int{75}}, api.Node{Op: 76})
	for i := range room {
		room[i].Kids = append(slices.Clone(room[i].Kids), 78, 79)[:len(room[i].Kids)]
	}
	var before []api.Node
	for _, node := range room {
		node.Kids = slices.Clone(node.Kids)
		before = append(before, node)
	}
	given := []string{"len", "b", "len", "behind", "it"}
	uses, funcs, err := resolve.Resolve(room[:len(l)], given[:3]...)
	resolve.Resolve(room[:len(l)], given[1:2]...)
	if err != nil || !reflect.DeepEqual(room, before) || !slices.Equal(given, []string{"len", "b", "len", "behind", "it"}) {
		t.Fatal(room, given, err)
	}
	for i, node := range room {
		if rest := node.Kids[:len(node.Kids)+2]; !slices.Equal(rest[len(node.Kids):], []int{78, 79}) {
			t.Fatal("behind the kids of", i, rest)
		}
	}
	wantUses, wantFuncs := usesText(l, uses), funcsText(funcs)
	clear(given)
	clear(room)
	if usesText(l, uses) != wantUses || funcsText(funcs) != wantFuncs {
		t.Error("what was passed in is kept")
	}
	faults(t, "x = 1\n^behind", given[:3]...)
}
