package lex_test

import (
	"errors"
	"slices"
	"strconv"
	"strings"
	"testing"

	"smithy/api"
	"smithy/lex"
)

// tell is tokens as a text: each one's kind, what it says, `@` and its place.
func tell(l []api.Token) string {
	var all []string
	for _, x := range l {
		text := x.Text
		switch x.Kind {
		case api.TName, api.TSign:
		case api.TInt:
			text = "#" + text
		case api.TStr:
			text = strconv.QuoteToASCII(text)
		case api.TNewline:
			text += "NL"
		case api.TIndent:
			text += "IN"
		case api.TDedent:
			text += "DE"
		case api.TEnd:
			text += "END"
		default:
			text = "kind " + strconv.Itoa(x.Kind)
		}
		all = append(all, text+"@"+strconv.Itoa(x.Pos))
	}
	return strings.Join(all, " ")
}

func scans(t *testing.T, text, want string) {
	t.Helper()
	l, err := lex.Scan(text)
	if got := tell(l); got != want || err != nil {
		t.Errorf("Scan(%.80q): %.400s, %v; want %.400s", text, got, err, want)
	}
}

func faults(t *testing.T, text string, pos int) {
	t.Helper()
	l, err := lex.Scan(text)
	var at *api.At
	if l != nil || !errors.As(err, &at) || at != err || at.Pos != pos || at.Err != api.ErrLex {
		t.Errorf("Scan(%.80q): %.80s, %v; want ErrLex at %d", text, tell(l), err, pos)
	}
}

// P4.1: texts without a token.
func TestScanNothing(t *testing.T) {
	for _, text := range []string{
		"", "\n", "\n\n\n", " ", "   \n  \n ", "#", "# a ? 'b (", "#\n", "  # a\n#b\n\n   #", "####", "# \x80\xff\u00e4",
		strings.Repeat(" \n", 100),
	} {
		scans(t, text, "END@"+strconv.Itoa(len(text)))
	}
}

// P4.1: the last line ends with or without a newline; TEnd and what ends there stand at the text's length.
func TestScanLines(t *testing.T) {
	scans(t, "a", "a@0 NL@1 END@1")
	scans(t, "a\n", "a@0 NL@1 END@2")
	scans(t, "a\n\n", "a@0 NL@1 END@3")
	scans(t, "a\n  ", "a@0 NL@1 END@4")
	scans(t, "a  ", "a@0 NL@3 END@3")
	scans(t, "a  \n", "a@0 NL@3 END@4")
	scans(t, "\n\na\nb", "a@2 NL@3 b@4 NL@5 END@5")
	scans(t, "a\n\n \nb\n", "a@0 NL@1 b@5 NL@6 END@7")
}

// P4.1: a comment is as if it were not there, at a line's end and alone.
func TestScanComments(t *testing.T) {
	scans(t, "a#b", "a@0 NL@3 END@3")
	scans(t, "a # b\nc", "a@0 NL@5 c@6 NL@7 END@7")
	scans(t, "a # b # c\n", "a@0 NL@9 END@10")
	scans(t, "#a\nb", "b@3 NL@4 END@4")
	scans(t, "a\n#\nb\n#", "a@0 NL@1 b@4 NL@5 END@7")
	scans(t, "a # 'b ( ? \\ \" ;\nc", "a@0 NL@16 c@17 NL@18 END@18")
	scans(t, "'#' #'\n", `"#"@0 NL@6 END@7`)
	scans(t, "a\n    # deeper than its block\n  b", "a@0 NL@1 IN@32 b@32 NL@33 DE@33 END@33")
	scans(t, "a\n  b\n # of no block\n  c", "a@0 NL@1 IN@4 b@4 NL@5 c@23 NL@24 DE@24 END@24")
}

// P4.1: each kind of token, with its place and with spaces or none between.
func TestScanKinds(t *testing.T) {
	l, err := lex.Scan("if x:\n  12 'y'")
	want := []api.Token{
		{Kind: api.TSign, Text: "if", Pos: 0},
		{Kind: api.TName, Text: "x", Pos: 3},
		{Kind: api.TSign, Text: ":", Pos: 4},
		{Kind: api.TNewline, Text: "", Pos: 5},
		{Kind: api.TIndent, Text: "", Pos: 8},
		{Kind: api.TInt, Text: "12", Pos: 8},
		{Kind: api.TStr, Text: "y", Pos: 11},
		{Kind: api.TNewline, Text: "", Pos: 14},
		{Kind: api.TDedent, Text: "", Pos: 14},
		{Kind: api.TEnd, Text: "", Pos: 14},
	}
	if !slices.Equal(l, want) || err != nil {
		t.Errorf("%v, %v", l, err)
	}
	scans(t, "if x:\n  y", "if@0 x@3 :@4 NL@5 IN@8 y@8 NL@9 DE@9 END@9")
	scans(t, "a 'b'", `a@0 "b"@2 NL@5 END@5`)
	scans(t, "a'b'c\"d\"1'e'", `a@0 "b"@1 c@4 "d"@5 #1@8 "e"@9 NL@12 END@12`)
	scans(t, "a   b", "a@0 b@4 NL@5 END@5")
	scans(t, "a.b[1:2]", "a@0 .@1 b@2 [@3 #1@4 :@5 #2@6 ]@7 NL@8 END@8")
	scans(t, "x=-1", "x@0 =@1 -@2 #1@3 NL@4 END@4")
	scans(t, "1+2", "#1@0 +@1 #2@2 NL@3 END@3")
	scans(t, "1.5", "#1@0 .@1 #5@2 NL@3 END@3")
}

// P4.1: every sign, and of a longer one and a shorter one the longest.
func TestScanSigns(t *testing.T) {
	for _, sign := range strings.Fields("== != <= >= += // < > = + - * % , : .") {
		scans(t, sign, sign+"@0 NL@"+strconv.Itoa(len(sign))+" END@"+strconv.Itoa(len(sign)))
		scans(t, "a"+sign+"b", "a@0 "+sign+"@1 b@"+strconv.Itoa(1+len(sign))+" NL@"+strconv.Itoa(2+len(sign))+" END@"+strconv.Itoa(2+len(sign)))
	}
	scans(t, "()[]{}", "(@0 )@1 [@2 ]@3 {@4 }@5 NL@6 END@6")
	scans(t, "===", "==@0 =@2 NL@3 END@3")
	scans(t, "====", "==@0 ==@2 NL@4 END@4")
	scans(t, "= =", "=@0 =@2 NL@3 END@3")
	scans(t, "<==", "<=@0 =@2 NL@3 END@3")
	scans(t, "=<=>=", "=@0 <=@1 >=@3 NL@5 END@5")
	scans(t, "!==", "!=@0 =@2 NL@3 END@3")
	scans(t, "<>", "<@0 >@1 NL@2 END@2")
	scans(t, "++=", "+@0 +=@1 NL@3 END@3")
	scans(t, "-=*=%=", "-@0 =@1 *@2 =@3 %@4 =@5 NL@6 END@6")
	scans(t, "////", "//@0 //@2 NL@4 END@4")
	scans(t, "**..::,,", "*@0 *@1 .@2 .@3 :@4 :@5 ,@6 ,@7 NL@8 END@8")
	scans(t, "=", "=@0 NL@1 END@1")
	scans(t, "+\n=", "+@0 NL@1 =@2 NL@3 END@3")
}

// P4.1: words are signs; names that begin, end or are written as words do are names.
func TestScanWords(t *testing.T) {
	for _, w := range lex.Words() {
		l, err := lex.Scan(w)
		if err != nil || len(l) != 3 || l[0] != (api.Token{Kind: api.TSign, Text: w}) {
			t.Errorf("%q: %v, %v", w, l, err)
		}
		for _, name := range []string{w + "1", w + "_", "_" + w, w + "x", "a" + w, w + w, w[:len(w)-1] + "Q", strings.ToUpper(w)} {
			l, err = lex.Scan(name)
			if err != nil || len(l) != 3 || l[0] != (api.Token{Kind: api.TName, Text: name}) {
				t.Errorf("%q: %v, %v", name, l, err)
			}
		}
	}
	scans(t, "not in notin", "not@0 in@4 notin@7 NL@12 END@12")
	scans(t, "if(x)else", "if@0 (@2 x@3 )@4 else@5 NL@9 END@9")
}

// P4.1: names of each byte that one may have.
func TestScanNames(t *testing.T) {
	scans(t, "_", "_@0 NL@1 END@1")
	scans(t, "a1 _1 __ A_z9", "a1@0 _1@3 __@6 A_z9@9 NL@13 END@13")
	const all = "abcdefghijklmnopqrstuvwxyzABCDEFGHIJKLMNOPQRSTUVWXYZ_0123456789"
	scans(t, all, all+"@0 NL@63 END@63")
	long := strings.Repeat("a", api.MaxText)
	scans(t, long, long+"@0 NL@65536 END@65536")
}

// P4.1: numbers, up to MaxDigits digits.
func TestScanNumbers(t *testing.T) {
	for _, n := range []string{"0", "1", "9", "10", "1234567890", "9" + strings.Repeat("0", api.MaxDigits-1)} {
		end := strconv.Itoa(len(n))
		scans(t, n, "#"+n+"@0 NL@"+end+" END@"+end)
	}
	scans(t, "0 0", "#0@0 #0@2 NL@3 END@3")
	scans(t, "0.0,0", "#0@0 .@1 #0@2 ,@3 #0@4 NL@5 END@5")
	scans(t, "0'a'", `#0@0 "a"@1 NL@4 END@4`)
	scans(t, "0#1", "#0@0 NL@3 END@3")
}

// P4.1: strings with either quote, the other one within, and each piece.
func TestScanStrings(t *testing.T) {
	scans(t, `''`, `""@0 NL@2 END@2`)
	scans(t, `""`, `""@0 NL@2 END@2`)
	scans(t, `'a' "b"`, `"a"@0 "b"@4 NL@7 END@7`)
	scans(t, `'"' "'"`, `"\""@0 "'"@4 NL@7 END@7`)
	scans(t, `''''`, `""@0 ""@2 NL@4 END@4`)
	for _, quote := range []string{"'", `"`} {
		for piece, says := range map[string]string{
			`\n`: "\n", `\t`: "\t", `\\`: "\\", `\"`: `"`, `\'`: "'",
			`\x00`: "\x00", `\x41`: "A", `\xfF`: "\xff", `\xAb`: "\xab", `\x0a`: "\n", `\x7f`: "\x7f", `\x90`: "\x90",
			`\\n`: `\n`, `\\\n`: "\\\n", `\x411`: "A1", `\\x41`: `\x41`,
		} {
			end := strconv.Itoa(len(piece) + 2)
			scans(t, quote+piece+quote, strconv.QuoteToASCII(says)+"@0 NL@"+end+" END@"+end)
			end = strconv.Itoa(len(piece) + 4)
			scans(t, quote+"a"+piece+"b"+quote, strconv.QuoteToASCII("a"+says+"b")+"@0 NL@"+end+" END@"+end)
		}
	}
	scans(t, `'# not a comment' # one`, `"# not a comment"@0 NL@23 END@23`)
	scans(t, `'([{' ')'`, `"([{"@0 ")"@6 NL@9 END@9`)
}

// P4.1: each byte as it is in a string, in a comment, and out of both.
func TestScanBytes(t *testing.T) {
	for c := range 256 {
		b := string([]byte{byte(c)})
		switch {
		case c == '\n':
			faults(t, "'a"+b+"'", 0)
			scans(t, "x#"+b, "x@0 NL@2 END@3")
		case c < 32 || c == 127:
			faults(t, "'a"+b+"'", 2)
			faults(t, "x # a"+b+"b", 5)
			faults(t, "#"+b, 1)
			faults(t, "x"+b, 1)
			faults(t, "x\n\n "+b, 4)
		case c == '\'' || c == '\\':
			scans(t, "x#"+b, "x@0 NL@3 END@3")
		default:
			scans(t, "'a"+b+"'", strconv.QuoteToASCII("a"+b)+"@0 NL@4 END@4")
			scans(t, "x#"+b, "x@0 NL@3 END@3")
		}
		if c > 127 || c < 127 && strings.Contains("$&;?@\\^`|~!/", b) {
			faults(t, b, 0)
			faults(t, "a "+b+" b", 2)
			faults(t, "a"+b, 1)
			faults(t, "a\n  "+b, 4)
		}
	}
}
