package parse_test

import (
	"errors"
	"slices"
	"strings"
	"testing"
	"unsafe"

	"smithy/api"
	"smithy/lex"
	"smithy/parse"
)

// P6.1: a fault of lex.Scan is told as it is, whatever else there is in the text.
func TestScanFaults(t *testing.T) {
	for _, text := range []string{
		"?", "x ? y", "x y ?", "1 = a\n?", "a = 01", "'a", "'\\q'", "(", "a)", "(]", "if a:\n    b\n  c", "x = 1 +\n'", "break 1a",
		strings.Repeat("(", api.MaxDeep+1) + strings.Repeat(")", api.MaxDeep+1), "def f(a = " + strings.Repeat("[", api.MaxDeep) + strings.Repeat("]", api.MaxDeep) + "): pass",
		strings.Repeat("-", 100) + "1 ?", "x = " + strings.Repeat("1", api.MaxDigits+1),
	} {
		_, want := lex.Scan(text)
		var scanned *api.At
		if !errors.As(want, &scanned) {
			t.Fatal(text, "has no fault")
		}
		l, err := parse.Parse(text)
		isFault(t, text, l, err, scanned.Pos, api.ErrLex)
		l, err = parse.Expr(text)
		isFault(t, text, l, err, scanned.Pos, api.ErrLex)
	}
	long := strings.Repeat("a", api.MaxText)
	for _, call := range []func(string) ([]api.Node, error){parse.Parse, parse.Expr} {
		if l, err := call(long + "a"); l != nil || err != api.ErrLimit {
			t.Error("too long a text:", l, err)
		}
		if l, err := call(long); len(l) == 0 || err != nil {
			t.Error("a text that is just not too long:", err)
		}
	}
}

// P6.1: a token with which no file goes on: at the beginning, within brackets, at a line's end, at the text's end.
func TestFaultsWhere(t *testing.T) {
	for _, text := range []string{"*", ":", ",", "=", "else", "in", "and", ".", "+= 1", "elif", "//"} {
		faults(t, text, 0)
		faults(t, " \n"+text, 2)
		faults(t, "a\n"+text, 2)
		faults(t, "[a, (b, {c: "+text+"})]", 12)
		faults(t, "f(a, k = "+text+")", 9)
	}
	faults(t, "a +", 3)
	faults(t, "a + # c", 7)
	faults(t, "a +\n\nb", 3)
	faults(t, "a = (b,\n c\n d)", 12)
	faults(t, "(a,\n  b c)", 8)
	faults(t, "if a:\n  b +\nc", 11)
	faults(t, "if a:\n  if b:\nc", 14)
	faults(t, "if a:", 5)
	faults(t, "if a: # c", 9)
	faults(t, "for a in b:\n\n\n", 14)
	faults(t, "if a:\n  if b:", 13)
	faults(t, "if a:\n  if b:\n", 14)
}

// P6.1: a string that says a sign or a word is none.
func TestStringsAreNoSigns(t *testing.T) {
	faults(t, "a '+' b", 2)
	faults(t, "if a ':' b", 5)
	faults(t, "f(a '=' b)", 4)
	faults(t, "a '=' b", 2)
	faults(t, "for a 'in' b: c", 6)
	faults(t, "load('m' ',' 'a')", 9)
	faults(t, "a if b 'else' c", 7)
	isExpr(t, "'pass'", "Str:pass@0")
	isExpr(t, "['for', 'not']", "List@0(Str:for@1 Str:not@8)")
	isExpr(t, "f('a', k = '=')", "Call@1(Name:f@0 Str:a@2 Arg:k@7(Str:=@11))")
}

// P6.1: where there are several faults that which is met first is told: tokens are read from the left, and what is no
// target, or out of turn, is looked at when it is read.
func TestFirstFault(t *testing.T) {
	deep := strings.Repeat("-", api.MaxDeep)
	faults(t, "a b\nc d", 2)
	faults(t, "1 = 2 3", 2)
	faults(t, "1 + = 2", 4)
	faults(t, "break = 1", 0)
	faults(t, "return 1 2", 0)
	faults(t, "f(a = 1, a = 2) = 3", 9)
	faults(t, "f(a = 1 2, a = 3)", 8)
	faults(t, "def f(a, a): break", 9)
	faults(t, "def f(a = b c, a): pass", 12)
	faults(t, "for f(x + ) in y: pass", 10)
	faults(t, "for f(a = 1, a = 2) in y: pass", 13)
	faults(t, "for f(x) in y z", 4)
	faults(t, "for a in b c: break d", 11)
	faults(t, "[a b for f(c) in d]", 3)
	faults(t, "load('m', 'a b', 1)", 10)
	faults(t, "if a: break\nelse: load", 6)
	limits(t, deep+"-1 2", 60)
	limits(t, deep+"-", 60)
	limits(t, deep+"-1 = 2", 60)
	limits(t, deep+"-1\nbreak", 60)
	faults(t, "1 = "+deep+"-1", 2)
	faults(t, "break\n"+deep+"-1", 0)
	faults(t, "1 2 "+deep+"-1", 2)
	faults(t, deep+"1 2\n"+deep+"-1", 62)
	limits(t, "for f("+deep+") in y: pass", 65)
	limits(t, "for a.b["+deep[1:]+"-1].c in y: pass", 67)
	faults(t, "for a.b in "+deep+"-1: pass", 4)
	limits(t, "f(a = 1, b = "+deep+"1, a = 2)", 72)
	faults(t, "f(a = 1, a = "+deep+"-1)", 9)
	limits(t, "def f(a = "+deep+"-1, a): pass", 70)
	faults(t, "def f(a, a = "+deep+"-1): pass", 9)
}

// P6.1: of one token ErrParse is told, not ErrLimit.
func TestParseAheadOfLimit(t *testing.T) {
	deep := strings.Repeat("-", api.MaxDeep-1)
	for _, argument := range []string{"-1", "(1)", "[1]", "{}", "()", "[a for b in c]"} {
		faults(t, deep+"f(a = 1, "+argument+")", 68)
		limits(t, deep+"f(1, "+argument+")", 64)
		limits(t, deep+"f(a = "+argument+")", 65)
	}
	for _, target := range []string{"-a", "[a]", "{}", "not a"} {
		faults(t, deep+"[x for "+target+" in y]", 66)
		faults(t, deep+"[x for a, "+target+" in y]", 69)
	}
	limits(t, deep+"[x for (a) in y]", 66)
	limits(t, deep+"[x for () in y]", 66)
	limits(t, deep+"[x for a, (b.c) in y]", 69)
	limits(t, deep+"[x for a[0] in y]", 67)
	faults(t, deep+"[x for a.b in y]", 66)
	faults(t, deep+"[1 + not 1]", 64)
	faults(t, deep+"-not 1", 60)
	faults(t, deep+"[x not not y]", 66)
	faults(t, deep+"[x < y not z]", 66)
	faults(t, deep+"[x for y in z if a if b]", 78)
	faults(t, deep+"[1 {}]", 62)
	limits(t, deep+"[x if y if z]", 62)
	limits(t, deep+"[x ()]", 62)
}

// P6.1: Expr of an expression, of a Tuple, with newlines behind it, of nothing, of what is none, and of more than one.
func TestExpr(t *testing.T) {
	for _, x := range []struct{ text, want string }{
		{"a", "Name:a@0"}, {"a\n", "Name:a@0"}, {"\n\na # c\n\n", "Name:a@2"}, {"a, b\n", "Tuple@0(Name:a@0 Name:b@3)"}, {"a,", "Tuple@0(Name:a@0)"},
		{"()", "Tuple@0"}, {"(a,\nb)", "Tuple@0(Name:a@1 Name:b@4)"}, {"a + b", "Add@2(Name:a@0 Name:b@4)"}, {"(a), b", "Tuple@0(Name:a@1 Name:b@5)"},
		{"f(k = [a for a, in b])", "Call@1(Name:f@0 Arg:k@2(Comp@6(Name:a@7 Tuple@13(Name:a@13) Name:b@19)))"},
	} {
		l, err := parse.Expr(x.text)
		if err != nil {
			t.Error(x.text, err)
			continue
		}
		sound(t, x.text, l, x.want)
	}
	for _, x := range []struct {
		text string
		pos  int
	}{
		{"", 0}, {"\n", 1}, {"  # c\n", 6}, {" a", 1}, {"a\nb", 2}, {"a\n  b", 4}, {"a b", 2}, {"a = b", 2}, {"a += b", 2}, {"pass", 0}, {"return a", 0}, {"break", 0},
		{"load('m', 'a')", 0}, {"if a: b", 0}, {"for a in b: c", 0}, {"def f(): pass", 0}, {"a:", 1}, {"a\npass", 2}, {"a +", 3}, {"a,,", 2}, {"(a = b)", 3}, {"*", 0}, {"1 = 2", 2},
		{"a if b", 6}, {"f(a = 1, b)", 9}, {"[a for b.c in d]", 7},
	} {
		l, err := parse.Expr(x.text)
		isFault(t, x.text, l, err, x.pos, api.ErrParse)
	}
	deep := strings.Repeat("not ", api.MaxDeep)
	if l, err := parse.Expr(deep + "a"); len(l) != api.MaxDeep+1 || err != nil {
		t.Error(l, err)
	}
	l, err := parse.Expr(deep + "(a)")
	isFault(t, "deep", l, err, len(deep), api.ErrLimit)
}

// P6.1, P0.2: errors.Is and errors.As find what each kind of fault is, and where; a fault is new each time.
func TestErrors(t *testing.T) {
	for _, x := range []struct {
		text string
		pos  int
		kind error
	}{{"a ? b", 2, api.ErrLex}, {"a b", 2, api.ErrParse}, {"a = " + strings.Repeat("-", 61) + "1", 64, api.ErrLimit}} {
		for _, call := range []func(string) ([]api.Node, error){parse.Parse, func(text string) ([]api.Node, error) { return parse.Expr(strings.Replace(text, "=", "+", 1)) }} {
			l, err := call(x.text)
			isFault(t, x.text, l, err, x.pos, x.kind)
			for _, other := range []error{api.ErrLex, api.ErrParse, api.ErrLimit, api.ErrShape} {
				if errors.Is(err, other) != (other == x.kind) {
					t.Error(x.text, "is not just its kind:", other)
				}
			}
			var at *api.At
			errors.As(err, &at)
			at.Pos, at.Err = -1, nil
			l, err = call(x.text)
			isFault(t, x.text, l, err, x.pos, x.kind)
		}
	}
}

const everything = "load('m', 'a', b = 'c' )\ndef f(a, b = 1):\n if a: return a, b\n elif b:\n  return\n else: a += 1\n for a, (b, c[0]) in [i for i in a if b]:\n  break\n" +
	"x, y = {a: b}, [], (), f(1, k = 'a' \"b\")[1:].c if not -1 else None\nfor a in True, False: continue\n"

// P6.2: each list of an answer is new memory, its spare room, too: what is written into one shows in no other.
func TestNewMemory(t *testing.T) {
	first, err := parse.Parse(everything)
	if err != nil {
		t.Fatal(err)
	}
	second, _ := parse.Parse(everything)
	want := shown(second, len(second)-1)
	for i := range first {
		first[i].Kids = first[i].Kids[:cap(first[i].Kids)]
		for k := range first[i].Kids {
			first[i].Kids[k] = -1 - i
		}
	}
	for i, x := range first {
		if slices.ContainsFunc(x.Kids, func(kid int) bool { return kid != -1-i }) {
			t.Error("node", i, "shows what was written into another one:", x.Kids)
		}
	}
	first = append(first, api.Node{})
	clear(first[:cap(first)])
	third, _ := parse.Parse(everything)
	if shown(second, len(second)-1) != want || shown(third, len(third)-1) != want {
		t.Error("another answer shows what was written into one")
	}
}

// P6.2: no answer keeps memory of the text.
func TestNothingOfTheText(t *testing.T) {
	text := strings.Clone(everything)
	from := uintptr(unsafe.Pointer(unsafe.StringData(text)))
	l, _ := parse.Parse(text)
	for _, x := range l {
		at := uintptr(unsafe.Pointer(unsafe.StringData(x.S)))
		if x.S != "" && from <= at && at < from+uintptr(len(text)) {
			t.Error(x, "lies in the text")
		}
	}
}
