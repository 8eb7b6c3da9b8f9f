package lex_test

import (
	"strconv"
	"strings"
	"testing"

	"smithy/api"
	"smithy/lex"
)

// P4.1: blocks that begin and end, by one and by several at once.
func TestBlocks(t *testing.T) {
	scans(t, "a\n  b\nc", "a@0 NL@1 IN@4 b@4 NL@5 DE@6 c@6 NL@7 END@7")
	scans(t, "a\n  b\n  c\n", "a@0 NL@1 IN@4 b@4 NL@5 c@8 NL@9 DE@10 END@10")
	scans(t, "a\n b\n  c\nd", "a@0 NL@1 IN@3 b@3 NL@4 IN@7 c@7 NL@8 DE@9 DE@9 d@9 NL@10 END@10")
	scans(t, "a\n b\n  c\n", "a@0 NL@1 IN@3 b@3 NL@4 IN@7 c@7 NL@8 DE@9 DE@9 END@9")
	scans(t, "a\n b\n  c\n   d\n b", "a@0 NL@1 IN@3 b@3 NL@4 IN@7 c@7 NL@8 IN@12 d@12 NL@13 DE@15 DE@15 b@15 NL@16 DE@16 END@16")
	scans(t, "a\n   b\nc\n d", "a@0 NL@1 IN@5 b@5 NL@6 DE@7 c@7 NL@8 IN@10 d@10 NL@11 DE@11 END@11")
	scans(t, "  a", "IN@2 a@2 NL@3 DE@3 END@3")
	scans(t, "  a\nb", "IN@2 a@2 NL@3 DE@4 b@4 NL@5 END@5")
	scans(t, " a\n  b\nc", "IN@1 a@1 NL@2 IN@5 b@5 NL@6 DE@7 DE@7 c@7 NL@8 END@8")
	scans(t, "a\n  'b'\n  1\n  if\n  (\n)", `a@0 NL@1 IN@4 "b"@4 NL@7 #1@10 NL@11 if@14 NL@16 (@19 )@21 NL@22 DE@22 END@22`)
}

// P4.1: lines without a token neither begin nor end a block; what is open at the end ends behind them.
func TestBlocksAndBlankLines(t *testing.T) {
	scans(t, "a\n  b\n\n \n    \n#\n  c", "a@0 NL@1 IN@4 b@4 NL@5 c@18 NL@19 DE@19 END@19")
	scans(t, "a\n    \n  b", "a@0 NL@1 IN@9 b@9 NL@10 DE@10 END@10")
	scans(t, "a\n  b\n\n   # c\n", "a@0 NL@1 IN@4 b@4 NL@5 DE@14 END@14")
	scans(t, "    \na", "a@5 NL@6 END@6")
}

// P4.1: a depth that no block has is a fault at the line's first token.
func TestBlocksOfNoDepth(t *testing.T) {
	faults(t, "a\n  b\n c", 7)
	faults(t, "  a\n b", 5)
	faults(t, "a\n  b\n    c\n   d\n", 15)
	faults(t, "a\n  b\n    c\n d\n", 13)
	faults(t, "a\n  b\n    c\n d", 13)
	faults(t, "a\n  b\n (c)", 7)
	faults(t, "a\n  b\n 'c'", 7)
	faults(t, "a\n  b\n #\n 1", 10)
	scans(t, "a\n  b\n #\n", "a@0 NL@1 IN@4 b@4 NL@5 DE@9 END@9")
	faults(t, "a\n  b\nc\n  d\n e", 13)
}

// stair is so many lines, each one deeper by a space than the one ahead of it, from the first space on; and where each begins.
func stair(lines int) (string, []int) {
	text := ""
	var at []int
	for i := range lines {
		text += strings.Repeat(" ", i)
		at = append(at, len(text))
		text += "x\n"
	}
	return text, at
}

// P4.1: blocks are at most MaxDeep deep; those that have ended don't count.
func TestBlocksDeep(t *testing.T) {
	text, _ := stair(api.MaxDeep + 1)
	l, err := lex.Scan(text)
	if err != nil || len(l) != 2*(api.MaxDeep+1)+2*api.MaxDeep+1 {
		t.Fatal(len(l), err)
	}
	count := map[int]int{}
	for _, x := range l {
		count[x.Kind]++
		if x.Kind == api.TDedent && x.Pos != len(text) {
			t.Error(x)
		}
	}
	if count[api.TIndent] != api.MaxDeep || count[api.TDedent] != api.MaxDeep {
		t.Error(count)
	}
	deeper, at := stair(api.MaxDeep + 2)
	faults(t, deeper, at[api.MaxDeep+1])
	faults(t, deeper+"?", at[api.MaxDeep+1])
	_, err = lex.Scan(text + text + strings.Repeat(" ", api.MaxDeep-1) + "# x")
	if err != nil {
		t.Error(err)
	}
	wide := strings.Repeat("x\n"+strings.Repeat(" ", 500)+"x\n", api.MaxDeep+1)
	if _, err = lex.Scan(wide); err != nil {
		t.Error(err)
	}
	if _, err = lex.Scan("x\n" + strings.Repeat("  ", 3000) + "x"); err != nil {
		t.Error(err)
	}
}

// P4.1: brackets of each kind, within one another.
func TestBrackets(t *testing.T) {
	scans(t, "([{}])", "(@0 [@1 {@2 }@3 ]@4 )@5 NL@6 END@6")
	scans(t, "{([])}[]", "{@0 (@1 [@2 ]@3 )@4 }@5 [@6 ]@7 NL@8 END@8")
	scans(t, "(())()", "(@0 (@1 )@2 )@3 (@4 )@5 NL@6 END@6")
}

// P4.1: within brackets newlines are as spaces, and lines are not indented; the line goes on behind them.
func TestBracketLines(t *testing.T) {
	for _, pair := range []string{"()", "[]", "{}"} {
		from, to := pair[:1], pair[1:]
		scans(t, from+"\n"+to, from+"@0 "+to+"@2 NL@3 END@3")
		scans(t, from+"\n\n  a\n      b\n "+to+"\n", from+"@0 a@5 b@13 "+to+"@16 NL@17 END@18")
		scans(t, from+"a # b\n"+to, from+"@0 a@1 "+to+"@7 NL@8 END@8")
		scans(t, from+"\n#\n#"+from+"\n"+to+"\n a", from+"@0 "+to+"@7 NL@8 IN@10 a@10 NL@11 DE@11 END@11")
		scans(t, "a\n  b"+from+"\nc"+to+" d\n  e", "a@0 NL@1 IN@4 b@4 "+from+"@5 c@7 "+to+"@8 d@10 NL@11 e@14 NL@15 DE@15 END@15")
		scans(t, from+"\n"+to+from+"\n"+to, from+"@0 "+to+"@2 "+from+"@3 "+to+"@5 NL@6 END@6")
		scans(t, from+"\n  a"+to+"\nb", from+"@0 a@4 "+to+"@5 NL@6 b@7 NL@8 END@8")
	}
	scans(t, "([\n]\n)", "(@0 [@1 ]@3 )@5 NL@6 END@6")
	scans(t, "a\n  (b\n c\n   d)\n  e\nf", "a@0 NL@1 IN@4 (@4 b@5 c@8 d@13 )@14 NL@15 e@18 NL@19 DE@20 f@20 NL@21 END@21")
	deeper, at := stair(api.MaxDeep + 10)
	if l, err := lex.Scan("(\n" + deeper + ")"); err != nil || len(l) != len(at)+4 {
		t.Error(len(l), err)
	}
	faults(t, "('a\n')", 1)
}

// P4.1: a bracket that does not fit, one too many, one that stays open.
func TestBracketFaults(t *testing.T) {
	for _, from := range []string{"(", "[", "{"} {
		for _, to := range []string{")", "]", "}"} {
			if from+to == "()" || from+to == "[]" || from+to == "{}" {
				faults(t, from+to+to, 2)
				faults(t, from+to+"\n  "+to, 5)
				faults(t, "a "+to+from, 2)
				continue
			}
			faults(t, from+to, 1)
			faults(t, from+"\n a "+to, 5)
			faults(t, "({["+"]})"+from+to, 7)
		}
		for _, text := range []string{from, from + from, "a" + from, from + "\n", from + " # )]}", from + "a\n  \n", from + "\n ')]}'", "()" + from + "a, b", "\n  " + from + "\n#"} {
			faults(t, text, len(text))
		}
	}
	faults(t, "([)]", 2)
	faults(t, "(()", 3)
	faults(t, "([]", 3)
}

// P4.1: brackets are at most MaxDeep deep; those that are closed don't count.
func TestBracketsDeep(t *testing.T) {
	for _, pair := range []string{"()", "[]", "{}"} {
		from, to := strings.Repeat(pair[:1], api.MaxDeep), strings.Repeat(pair[1:], api.MaxDeep)
		for _, text := range []string{from + to, from + to + from + to, from + pair[1:] + pair[:1] + to, strings.Repeat(pair, api.MaxDeep+1)} {
			l, err := lex.Scan(text)
			if err != nil || len(l) != len(text)+2 {
				t.Error(text, len(l), err)
			}
		}
		for _, open := range []string{"(", "[", "{"} {
			faults(t, from+open, api.MaxDeep)
			faults(t, from+"\n "+open+to, api.MaxDeep+2)
			faults(t, from+to+from+open, 3*api.MaxDeep)
		}
		faults(t, from, api.MaxDeep)
		faults(t, from+to+pair[1:], 2*api.MaxDeep)
	}
	mixed := strings.Repeat("([{", api.MaxDeep/3)
	faults(t, mixed+"(", api.MaxDeep)
	if _, err := lex.Scan(mixed + strings.Repeat("}])", api.MaxDeep/3)); err != nil {
		t.Error(err)
	}
	blocks, _ := stair(api.MaxDeep + 1)
	both := blocks + strings.Repeat(" ", api.MaxDeep) + strings.Repeat("(", api.MaxDeep) + strings.Repeat(")", api.MaxDeep)
	if _, err := lex.Scan(both); err != nil {
		t.Error("blocks and brackets are counted apart: "+strconv.Itoa(len(both)), err)
	}
}
