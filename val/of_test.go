package val_test

import (
	"errors"
	"slices"
	"strings"
	"testing"

	"smithy/api"
	"smithy/val"
)

// P10.1: Of each node that is allowed, alone and within the others.
func TestOf(t *testing.T) {
	for _, c := range []struct{ text, want string }{
		{"None", "None"}, {"True", "True"}, {"False", "False"},
		{"0", "0"}, {"7", "7"}, {"-7", "-7"}, {"-0", "0"}, {"- 12", "-12"}, {"(1)", "1"}, {"-(1)", "-1"},
		{`""`, `""`}, {`'a"\n\xff'`, "\"a\\\"\\n\xff\""},
		{"[]", "[]"}, {"()", "()"}, {"{}", "{}"},
		{"[1]", "[1]"}, {"(1,)", "(1,)"}, {"1, 2", "(1, 2)"}, {"{1: 2}", "{1: 2}"},
		{"[None, True, False, -3, 'a', [], (), {}]", `[None, True, False, -3, "a", [], (), {}]`},
		{"(None, True, False, -3, 'a', [], (), {})", `(None, True, False, -3, "a", [], (), {})`},
		{"{None: 1, True: 2, False: 3, -3: 4, 'a': 5, (): 6, ((), (1,)): 7}", `{None: 1, True: 2, False: 3, -3: 4, "a": 5, (): 6, ((), (1,)): 7}`},
		{"{1: None, 2: [], 3: {}, 4: {4: {4: -4}}}", "{1: None, 2: [], 3: {}, 4: {4: {4: -4}}}"},
		{"{1: 1, True: 1, '1': 1, (1,): 1}", `{1: 1, True: 1, "1": 1, (1,): 1}`},
		{"{3: 1, 1: 2, 2: 3}", "{3: 1, 1: 2, 2: 3}"},
		{`{"a": [1, (2,)]}`, `{"a": [1, (2,)]}`},
	} {
		reads(t, said(t, c.text), c.want)
	}
	digits := strings.Repeat("9", api.MaxDigits)
	reads(t, said(t, "-"+digits), "-"+digits)
}

// P10.1: every other node is none that is allowed, whatever it is made of.
func TestOfOtherNodes(t *testing.T) {
	others := []string{
		"x", "f()", "f(1)", "f(a = 1)", "1 .n", "[1][0]", "[1][0:]", "'a'[:]", "'a'[0:1]",
		"not True", "True and True", "True or True", "1 if True else 2",
		"1 + 2", "1 - 2", "1 * 2", "1 // 2", "1 % 2", "1 == 1", "1 != 1", "1 < 1", "1 <= 1", "1 > 1", "1 >= 1", "1 in []", "1 not in []",
		"[1 for x in []]", "[1 for x in [] if True]",
		"-x", "-None", "-True", "-'a'", "-[]", "-()", "-{}", "--1", "-(-1)", "---1", "-(1 + 1)",
	}
	for _, other := range others {
		for _, in := range []string{"@", "(@)", "[@]", "[1, @]", "[@, 1]", "(@,)", "{1: @}", "{@: 1}", "[[({1: (@)},)]]"} {
			text := strings.ReplaceAll(in, "@", "("+other+")")
			if v, err := val.Of(nodes(t, text)); v != nil || err != api.ErrShape {
				t.Errorf("%s: %v %v", text, v, err)
			}
		}
	}
}

// P10.1: a Dict's keys: those that can't be hashed, and those that are there twice.
func TestOfKeys(t *testing.T) {
	for _, text := range []string{
		"{[]: 1}", "{{}: 1}", "{([],): 1}", "{(1, ({},)): 1}", "{1: 2, []: 3}", "[{[]: 1}]", "{1: {[]: 1}}",
		"{1: 2, 1: 2}", "{1: 2, 2: 3, 1: 3}", "{1: 2, 2: 3, 2: 3}", "{'a': 1, \"a\": 1}", "{None: 1, None: 1}", "{True: 1, True: 2}", "{(): 1, (): 2}", "{(1, 2): 1, (1, 2): 2}", "{-1: 1, -1: 2}", "{0: 1, -0: 2}", "([{1: {1: 2, 1: 3}}],)",
	} {
		v, err := val.Of(nodes(t, text))
		if v != nil || err != api.ErrDynamic || !errors.Is(err, api.ErrDynamic) {
			t.Errorf("%s: %v %v", text, v, err)
		}
	}
	for _, text := range []string{"{True: 1, 1: 2}", "{'1': 1, 1: 2}", "{None: 1, False: 2, 0: 3, '': 4, (): 5}", "{(1,): 1, ((1,),): 2}", "{1: 1, -1: 1}"} {
		reads(t, said(t, text), strings.ReplaceAll(text, "'", `"`))
	}
}

// P10.1: of several errors the first that is met: kids ahead of what has them, from the left, then a Dict's pairs.
func TestOfFirst(t *testing.T) {
	for _, c := range []struct {
		text string
		want error
	}{
		{"[x, {[]: 1}]", api.ErrShape},
		{"[{[]: 1}, x]", api.ErrDynamic},
		{"(x, {1: 1, 1: 1})", api.ErrShape},
		{"({1: 1, 1: 1}, x)", api.ErrDynamic},
		{"{[]: 1, 2: x}", api.ErrShape},
		{"{1: 1, 1: 1, 2: x}", api.ErrShape},
		{"{[]: x}", api.ErrShape},
		{"{{[]: 1}: x}", api.ErrDynamic},
		{"{x: {[]: 1}}", api.ErrShape},
		{"{1: {[]: 1}, x: 1}", api.ErrDynamic},
		{"{1: x, 2: {[]: 1}}", api.ErrShape},
		{"-{[]: 1}", api.ErrDynamic},
		{"-[{1: 1, 1: 1}]", api.ErrDynamic},
		{"{[]: 1} + x", api.ErrDynamic},
		{"x + {[]: 1}", api.ErrShape},
		{"{[]: 1} + 1", api.ErrDynamic},
		{"f({[]: 1})", api.ErrShape},
		{"[{[]: 1}][0]", api.ErrDynamic},
		{"[[[x]], {[]: 1}]", api.ErrShape},
		{"[[[{[]: 1}]], x]", api.ErrDynamic},
		{"[1, [2, -(-3)], {[]: 1}, x]", api.ErrShape},
	} {
		if v, err := val.Of(nodes(t, c.text)); v != nil || err != c.want {
			t.Errorf("%s: %v %v, want %v", c.text, v, err, c.want)
		}
	}
}

// P10.1, P10.2: a key with too much in it is Key's error, and of such keys and others the first pair's.
func TestOfLongKeys(t *testing.T) {
	deep := func(n int) []api.Node { return chain(n, api.NTuple, api.Node{Op: api.NNone}) }
	dict := func(keys ...[]api.Node) []api.Node {
		var l []api.Node
		var kids []int
		for _, key := range keys {
			at := len(l)
			for _, node := range key {
				node.Kids = slices.Clone(node.Kids)
				for i := range node.Kids {
					node.Kids[i] += at
				}
				l = append(l, node)
			}
			l = append(l, api.Node{Op: api.NNone})
			kids = append(kids, len(l)-2, len(l)-1)
		}
		return append(l, api.Node{Op: api.NDict, Kids: kids})
	}
	list := []api.Node{{Op: api.NList}}
	for i, c := range []struct {
		l    []api.Node
		want error
	}{
		{dict(deep(api.MaxDeep)), nil},
		{dict(deep(api.MaxDeep + 1)), api.ErrLimit},
		{dict(deep(1), deep(api.MaxDeep+1), list), api.ErrLimit},
		{dict(deep(1), list, deep(api.MaxDeep+1)), api.ErrDynamic},
		{dict(deep(api.MaxDeep), deep(api.MaxDeep)), api.ErrDynamic},
		{dict(deep(2), deep(2), deep(api.MaxDeep+1)), api.ErrDynamic},
	} {
		v, err := val.Of(c.l)
		if err != c.want || (v == nil) != (err != nil) {
			t.Errorf("%d: %v %v, want %v", i, v, err, c.want)
		}
	}
}

// chain is a leaf within n nodes of one kid each.
func chain(n, op int, leaf api.Node) []api.Node {
	l := []api.Node{leaf}
	for i := range n {
		l = append(l, api.Node{Op: op, Kids: []int{i}})
	}
	return l
}

// P10.1: nodes that are no expression.
func TestOfNoExpression(t *testing.T) {
	one := api.Node{Op: api.NInt, S: "1"}
	for i, l := range [][]api.Node{
		nil,
		{},
		{one, one},
		{one, {Op: api.NExpr, Kids: []int{0}}},
		{one, {Op: api.NExpr, Kids: []int{0}}, {Op: api.NBlock, Kids: []int{1}}},
		{{Op: api.NPass}},
		{{Op: api.NNothing}},
		{one, {Op: api.NArg, S: "a", Kids: []int{0}}},
		{{Op: api.NNothing}, {Op: api.NList, Kids: []int{0}}},
		{{Op: 0}}, {{Op: -1}}, {{Op: 48}},
		{one, {Op: api.NList, Kids: []int{0, 0}}},
		{one, {Op: api.NList, Kids: []int{1}}},
		{one, {Op: api.NList, Kids: []int{2}}},
		{one, {Op: api.NList, Kids: []int{-1}}},
		{{Op: api.NList, Kids: []int{1}}, one},
		{one, one, {Op: api.NList, Kids: []int{0}}},
		{one, {Op: api.NList, Kids: []int{0}}, {Op: api.NTuple, Kids: []int{0, 1}}},
		{one, {Op: api.NDict, Kids: []int{0}}},
		{{Op: api.NNeg}},
		{one, one, {Op: api.NNeg, Kids: []int{0, 1}}},
		{one, {Op: api.NNone, Kids: []int{0}}},
		{one, {Op: api.NInt, S: "1", Kids: []int{0}}},
		{one, {Op: api.NStr, S: "1", Kids: []int{0}}},
		{{Op: api.NInt}}, {{Op: api.NInt, S: "01"}}, {{Op: api.NInt, S: "1a"}}, {{Op: api.NInt, S: "+1"}},
	} {
		v, err := val.Of(l)
		if v != nil || err != api.ErrShape {
			t.Errorf("%d: %v %v", i, v, err)
		}
	}
}

// P10.1: it goes by the kids, wherever their nodes lie.
func TestOfStrewn(t *testing.T) {
	l := []api.Node{
		{Op: api.NInt, S: "3", Pos: 70},
		{Op: api.NStr, S: "b", Pos: -4},
		{Op: api.NInt, S: "1"},
		{Op: api.NTuple, Kids: []int{2}},
		{Op: api.NStr, S: "a"},
		{Op: api.NNeg, Kids: []int{0}},
		{Op: api.NDict, Kids: []int{4, 5, 1, 3}},
		{Op: api.NList, Kids: []int{6}},
	}
	v, err := val.Of(l)
	if err != nil {
		t.Fatal(err)
	}
	reads(t, v, `[{"a": -3, "b": (1,)}]`)
	// The node that lies first is not that which is met first.
	l = []api.Node{
		{Op: api.NName, S: "x"},
		{Op: api.NList},
		{Op: api.NNone},
		{Op: api.NDict, Kids: []int{1, 2}},
		{Op: api.NTuple, Kids: []int{3, 0}},
	}
	if v, err := val.Of(l); v != nil || err != api.ErrDynamic {
		t.Error(v, err)
	}
	l[4].Kids = []int{0, 3}
	if v, err := val.Of(l); v != nil || err != api.ErrShape {
		t.Error(v, err)
	}
}

// P10.1: List and Dict are new each time, and within one answer, too.
func TestOfNew(t *testing.T) {
	l := nodes(t, "([], [], {}, {}, {1: []})")
	first, err := val.Of(l)
	second, other := val.Of(l)
	if err != nil || other != nil {
		t.Fatal(err, other)
	}
	items, _ := val.Items(first)
	items[2].(*val.Dict).Set(integer(1), integer(2))
	val.Freeze(items[0])
	reads(t, first, "([], [], {1: 2}, {}, {1: []})")
	reads(t, second, "([], [], {}, {}, {1: []})")
	if !val.Frozen(items[0]) || val.Frozen(items[1]) {
		t.Error("two Lists of one answer are one")
	}
	others, _ := val.Items(second)
	for i, v := range others {
		if val.Frozen(v) {
			t.Errorf("%d of the second answer is frozen", i)
		}
	}
}

// P10.1, P0.1: trees as deep and wide as they come, of more kids than calls may stand within one another.
func TestOfLongTrees(t *testing.T) {
	const n = 200000
	v, err := val.Of(chain(n, api.NList, api.Node{Op: api.NStr, S: "a"}))
	if err != nil {
		t.Fatal(err)
	}
	reads(t, v, strings.Repeat("[", api.MaxDeep)+"..."+strings.Repeat("]", api.MaxDeep))
	if v, err := val.Of(chain(n, api.NTuple, api.Node{Op: api.NName, S: "a"})); v != nil || err != api.ErrShape {
		t.Error(v, err)
	}
	wide := make([]api.Node, n)
	kids := make([]int, n)
	for i := range wide {
		wide[i], kids[i] = api.Node{Op: api.NTrue}, i
	}
	v, err = val.Of(append(wide, api.Node{Op: api.NList, Kids: kids}))
	if count, is := val.Len(v); err != nil || !is || count != n {
		t.Error(count, is, err)
	}
}
