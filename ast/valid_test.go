package ast_test

import (
	"errors"
	"slices"
	"strings"
	"testing"

	"smithy/api"
	"smithy/ast"
)

// join is a tree of trees: they lie in order, then the node that has them as kids.
func join(op int, s string, trees ...[]api.Node) []api.Node {
	var l []api.Node
	var kids []int
	for _, tree := range trees {
		from := len(l)
		for _, node := range tree {
			node.Kids = slices.Clone(node.Kids)
			for i := range node.Kids {
				node.Kids[i] += from
			}
			l = append(l, node)
		}
		kids = append(kids, len(l)-1)
	}
	return append(l, api.Node{Op: op, S: s, Kids: kids})
}

func name(s string) []api.Node     { return join(api.NName, s) }
func number(s string) []api.Node   { return join(api.NInt, s) }
func text(s string) []api.Node     { return join(api.NStr, s) }
func pass() []api.Node             { return join(api.NPass, "") }
func expr(e []api.Node) []api.Node { return join(api.NExpr, "", e) }

func block(statements ...[]api.Node) []api.Node {
	return join(api.NBlock, "", statements...)
}

// sample is a tree that can be a kid as the letter's sort.
func sample(letter rune) []api.Node {
	switch letter {
	case 'n':
		return name("x")
	case 'i':
		return join(api.NIndex, "", name("x"), number("1"))
	case 't':
		return join(api.NTuple, "", name("x"), join(api.NTuple, "", name("y")))
	case 'u':
		return join(api.NTuple, "")
	case 'v':
		return join(api.NTuple, "", name("x"), number("1"))
	case 'e':
		return number("1")
	case 's':
		return text("s")
	case 'o':
		return join(api.NNothing, "")
	case 'a':
		return join(api.NArg, "k", number("1"))
	case 'S':
		return pass()
	case 'p':
		return join(api.NParam, "p")
	case 'q':
		return join(api.NParam, "q", number("1"))
	case 'l':
		return join(api.NParam, "l", text("s"))
	}
	return block(pass())
}

const sampleLetters = "nituvesoaSpqlB"

// of is a tree with kids of the letters' sorts.
func of(op int, s, letters string) []api.Node {
	var trees [][]api.Node
	for _, letter := range letters {
		trees = append(trees, sample(letter))
	}
	return join(op, s, trees...)
}

func valid(t *testing.T, what any, l []api.Node) {
	t.Helper()
	if err := ast.Valid(l); err != nil {
		t.Errorf("%v: %v", what, err)
	}
}

func faults(t *testing.T, what any, l []api.Node, pos int) {
	t.Helper()
	err := ast.Valid(l)
	var at *api.At
	if !errors.As(err, &at) || at != err || at.Pos != pos || at.Err != api.ErrShape {
		t.Errorf("%v: %v; want ErrShape at %d", what, err, pos)
	}
}

// formed checks that the last node has its form: what is laid behind it has the fault then, as no Block.
func formed(t *testing.T, what any, l []api.Node) {
	t.Helper()
	faults(t, what, append(slices.Clone(l), pass()...), len(l))
}

// unformed checks that the last node has no form, whatever is laid behind it.
func unformed(t *testing.T, what any, l []api.Node) {
	t.Helper()
	faults(t, what, l, len(l)-1)
	faults(t, what, append(slices.Clone(l), pass()...), len(l)-1)
	faults(t, what, append(slices.Clone(l), api.Node{Op: -1}), len(l)-1)
}

// forms has, of each Op, an S and some rows of kids that are right and some that are wrong: too few, too many, of wrong sorts.
var forms = []struct {
	op           int
	s            string
	right, wrong string // rows of letters; `-` is the row of none
}{
	{api.NNone, "", "-", "n e s S B ee"},
	{api.NTrue, "", "-", "n e s S B ee"},
	{api.NFalse, "", "-", "n e s S B ee"},
	{api.NInt, "1", "-", "n e s S B ee"},
	{api.NStr, "s", "-", "n e s S B ee"},
	{api.NName, "x", "-", "n e s S B ee"},
	{api.NNothing, "", "-", "n e o S B oo"},
	{api.NList, "", "- e n u eeeee nituves", "o a S p q l B eo ea ae eS Be ep eel"},
	{api.NTuple, "", "- e n u eeeee nituves", "o a S p q l B eo ea ae eS Be ep eel"},
	{api.NDict, "", "- ee ni tuvs eeeeee", "e eee eeeee eo oe ea ae eS pe Be eel eeea eeoe"},
	{api.NCall, "", "e n s eeee niuveta ea eaaa neaa", "- a o S p q l B aa ae eae eaea eeo eoe eS ep eal eaS eB Be eaB"},
	{api.NArg, "k", "n i t u v e s", "- ee o a S p q l B ea"},
	{api.NDot, "k", "n i t u v e s", "- ee o a S p q l B ea"},
	{api.NNeg, "", "n i t u v e s", "- ee o a S p q l B ea"},
	{api.NNot, "", "n i t u v e s", "- ee o a S p q l B ea"},
	{api.NIndex, "", pairs, noPairs},
	{api.NSlice, "", "eee eoe eeo eoo nit uvs soo", "- e ee eo oo oee ooo eeee eooo eea eae aee eoS eSo ep eop eBo eeq eol"},
	{api.NAnd, "", pairs, noPairs},
	{api.NOr, "", pairs, noPairs},
	{api.NIf, "", "eee nit uvs", "- e ee eeee oee eoe eeo aee eae eea See eSe eeS eBe eep eeB lee"},
	{api.NAdd, "", pairs, noPairs},
	{api.NSub, "", pairs, noPairs},
	{api.NMul, "", pairs, noPairs},
	{api.NDiv, "", pairs, noPairs},
	{api.NMod, "", pairs, noPairs},
	{api.NEq, "", pairs, noPairs},
	{api.NNe, "", pairs, noPairs},
	{api.NLt, "", pairs, noPairs},
	{api.NLe, "", pairs, noPairs},
	{api.NGt, "", pairs, noPairs},
	{api.NGe, "", pairs, noPairs},
	{api.NIn, "", pairs, noPairs},
	{api.NNotIn, "", pairs, noPairs},
	{api.NComp, "", "ene eie ete enee eiev enne enen utus vtvu", "- e en eneee one eno ane ena eue eve ees ese eoe ean Sne enS enB enep eueE eneo enea eneS onee enoe neee"},
	{api.NExpr, "", "n i t u v e s", "- ee o a S p q l B eS"},
	{api.NAssign, "", "ne ie te nu iv tn ti", "- n ee ue ve se nee no na nS nB np oe ae Se Be pe et"},
	{api.NAddTo, "", "ne ie nu iv nt ii", "- n te ue ve ee se nee no na nS nB np oe ae Se Be pe et"},
	{api.NPass, "", "-", "n e S B SS"},
	{api.NBreak, "", "-", "n e S B SS"},
	{api.NContinue, "", "-", "n e S B SS"},
	{api.NReturn, "", "- n i t u v e s", "ee o a S p q l B eS"},
	{api.NLoad, "m", "l ll lllll", "- p q s n e lp pl ql lq ls sl lB Bl lS"},
	{api.NCond, "", "eB eBB nB tB uBB", "- e B ee eS eBBB oBB aBB SBB Be BB eBe eeB oB aB SB pB eBS eSB eBo eBp BBB"},
	{api.NFor, "", "neB ieB teB nuB ivB nnB", "- ne nB nee neS neBB neBe ueB veB eeB seB oeB aeB noB naB nSB nBB neo nep BeB peB eB neBS"},
	{api.NDef, "f", "B pB qB lB pqlB pppB qpB", "- p BB BpB pBB e eB pe pS SB nB pn pBp oB aB pqe pae pqS pnB psB"},
	{api.NParam, "p", "- n i t u v e s", "ee o a S p q l B eS"},
	{api.NBlock, "", "S SS SSSSS", "- e n s o a p q l B SB BS Se eS SSp SlS"},
}

const (
	pairs   = "ee ni tu vs nn"
	noPairs = "- e eee eo oe oo ea ae eS Se eB Be ep qe el oee"
)

// rows are the rows of letters that a text of them has.
func rows(all string) []string {
	l := strings.Fields(all)
	for i := range l {
		l[i] = strings.TrimPrefix(l[i], "-")
	}
	return l
}

// P5.1: each Op's kids: how many, of which sorts.
func TestForms(t *testing.T) {
	if len(forms) != api.NBlock {
		t.Error("not each Op is here")
	}
	for _, f := range forms {
		for _, row := range rows(f.right) {
			formed(t, []any{f.op, row}, of(f.op, f.s, row))
		}
		for _, row := range rows(f.wrong) {
			unformed(t, []any{f.op, row}, of(f.op, f.s, row))
		}
	}
}

// P5.1: an Op that is none, with or without kids.
func TestNoOp(t *testing.T) {
	for _, op := range []int{0, -1, 48, 49, 64, 1 << 20, -1 << 63, 1<<63 - 1, api.NName + 1<<32, api.NPass + 256} {
		for _, row := range []string{"", "e", "ee", "nee", "S", "B", "neB"} {
			for _, s := range []string{"", "x"} {
				unformed(t, []any{op, row, s}, of(op, s, row))
			}
		}
	}
}

// rightRow is a row of kids that is right.
func rightRow(right string) string {
	return rows(right)[len(rows(right))-1]
}

// P5.1: N is 0; Pos may be anything.
func TestN(t *testing.T) {
	for _, f := range forms {
		l := of(f.op, f.s, rightRow(f.right))
		for _, n := range []int{1, -1, 2, 1 << 32, 1<<63 - 1, -1 << 63} {
			l[len(l)-1].N = n
			unformed(t, []any{f.op, n}, l)
		}
		l[len(l)-1].N = 0
		for _, pos := range []int{1, -1, 1<<63 - 1, -1 << 63} {
			l[len(l)-1].Pos = pos
			formed(t, []any{f.op, pos}, l)
		}
	}
}

// texts are what an S may be, of one sort or another.
var texts = []string{
	"", "x", "_", "a1", "_1", "__", "A_z9", strings.Repeat("x", api.MaxText), "s", "If", "none", "iff",
	"if", "None", "True", "not", "load", "in", "1", "0", "00", "01", "10", "1x", "x y", " x", "x ", "x-", "x.y", "\u00e4", "x\u00e4", "x\x00", "?", "-1", "+1", "\n",
}

func isNameText(s string) bool {
	return slices.Contains(texts[1:12], s)
}

// P5.1: S is empty where none is told; it is a name where one is told; of a Str and a Load it is any.
func TestS(t *testing.T) {
	for _, f := range forms {
		for _, s := range texts {
			var right bool
			switch f.op {
			case api.NStr, api.NLoad:
				right = true
			case api.NInt:
				right = s == "0" || s == "1" || s == "10"
			case api.NName, api.NArg, api.NDot, api.NDef, api.NParam:
				right = isNameText(s)
			default:
				right = s == ""
			}
			what := []any{f.op, s[:min(len(s), 9)]}
			for _, row := range rows(f.right) {
				if l := of(f.op, s, row); right {
					formed(t, what, l)
				} else {
					unformed(t, what, l)
				}
			}
		}
	}
}

// P5.1: Int's digits: 0, or such that begin otherwise, MaxDigits at most.
func TestDigits(t *testing.T) {
	for _, s := range []string{"0", "1", "9", "10", "90", "1234567890", "1" + strings.Repeat("0", api.MaxDigits-1), strings.Repeat("9", api.MaxDigits)} {
		formed(t, s, number(s))
		valid(t, s, block(expr(number(s))))
	}
	for _, s := range []string{
		"", "00", "01", "000", "0123", "-", "-0", "-1", "+1", " 1", "1 ", "1.", "1.5", "1_0", "1e3", "0x1", "x", "1x", "x1", "1:", "1/", "/", ":", "1\x00", "1\n", "\u0661", "1\u0661", "0a",
		strings.Repeat("1", api.MaxDigits+1), strings.Repeat("0", api.MaxDigits), "0" + strings.Repeat("1", api.MaxDigits-1), strings.Repeat("1", api.MaxDigits-1) + "x", strings.Repeat("1", api.MaxText),
	} {
		unformed(t, s, number(s))
	}
	for c := range 256 {
		s := string([]byte{byte(c)})
		if c >= '0' && c <= '9' {
			formed(t, c, number(s))
			formed(t, c, number("1"+s+"2"))
			continue
		}
		unformed(t, c, number(s))
		unformed(t, c, number("1"+s+"2"))
		unformed(t, c, number("12"+s))
	}
}

// P5.1: the targets, one within another.
func TestTargets(t *testing.T) {
	tuple := func(l ...[]api.Node) []api.Node { return join(api.NTuple, "", l...) }
	index := join(api.NIndex, "", number("1"), text(""))
	for i, target := range [][]api.Node{name("x"), index, tuple(name("x")), tuple(index, index), tuple(name("x"), tuple(index), tuple(tuple(tuple(name("x")))))} {
		formed(t, i, join(api.NAssign, "", target, number("1")))
		formed(t, i, join(api.NFor, "", target, number("1"), block(pass())))
		formed(t, i, join(api.NComp, "", number("1"), target, number("1")))
		if one := len(target) == 1 || i == 1; one {
			formed(t, i, join(api.NAddTo, "", target, number("1")))
		} else {
			unformed(t, i, join(api.NAddTo, "", target, number("1")))
		}
	}
	for i, target := range [][]api.Node{
		number("1"), tuple(), tuple(tuple()), tuple(name("x"), tuple()), tuple(tuple(), name("x")), tuple(name("x"), number("1")), tuple(tuple(name("x"), tuple(text("x")))),
		join(api.NList, "", name("x")), join(api.NDot, "x", name("x")), join(api.NSlice, "", name("x"), name("x"), name("x")), join(api.NCall, "", name("x")), join(api.NNeg, "", name("x")),
		tuple(join(api.NList, "", name("x"))), join(api.NNothing, ""), join(api.NParam, "x"), tuple(join(api.NDot, "x", name("x"))),
	} {
		unformed(t, i, join(api.NAssign, "", target, number("1")))
		unformed(t, i, join(api.NAddTo, "", target, number("1")))
		unformed(t, i, join(api.NFor, "", target, number("1"), block(pass())))
		unformed(t, i, join(api.NComp, "", number("1"), target, number("1")))
	}
}

// P5.1: a Load's Params say any text as the name there, and have names of their own; they may be alike.
func TestLoads(t *testing.T) {
	param := func(s string, kid ...[]api.Node) []api.Node { return join(api.NParam, s, kid...) }
	for _, there := range texts {
		valid(t, there, block(join(api.NLoad, "", param("x", text(there)))))
		valid(t, there, block(join(api.NLoad, there, param("x", text("y")))))
	}
	valid(t, "alike", block(join(api.NLoad, "m", param("x", text("y")), param("x", text("y")))))
	valid(t, "twice", block(join(api.NLoad, "m", param("x", text("y"))), join(api.NLoad, "m", param("x", text("y")))))
	unformed(t, "a Tuple of a Str", join(api.NLoad, "m", param("x", join(api.NTuple, "", text("y")))))
	unformed(t, "a Name", join(api.NLoad, "m", param("x", name("y"))))
	unformed(t, "none", join(api.NLoad, "m", param("x", text("y")), param("z")))
	faults(t, "no name", block(join(api.NLoad, "m", param("if", text("y")))), 1)
}

// P5.1: a Call's Args may have like names; what they are is told in their own places alone.
func TestCalls(t *testing.T) {
	arg := join(api.NArg, "k", number("1"))
	valid(t, "alike", block(expr(join(api.NCall, "", name("f"), arg, arg))))
	for _, op := range []int{api.NList, api.NTuple, api.NDict, api.NIndex, api.NAdd, api.NIf, api.NSlice} {
		unformed(t, op, join(op, "", arg, arg))
		unformed(t, op, join(op, "", name("x"), arg, arg))
	}
	faults(t, "alone", block(expr(arg)), 2)
	faults(t, "as a statement", block(arg), 2)
	faults(t, "as the whole", arg, 1)
	nothing := join(api.NNothing, "")
	faults(t, "Nothing alone", block(expr(nothing)), 1)
	faults(t, "Nothing as a statement", block(nothing), 1)
	faults(t, "Nothing as the whole", nothing, 0)
	faults(t, "Nothing called", block(expr(join(api.NCall, "", nothing))), 1)
	faults(t, "Nothing returned", block(join(api.NReturn, "", nothing)), 1)
	faults(t, "Nothing in an Arg", block(expr(join(api.NCall, "", name("f"), join(api.NArg, "k", nothing)))), 2)
	faults(t, "Nothing sliced", join(api.NSlice, "", nothing, number("1"), number("1")), 3)
}
