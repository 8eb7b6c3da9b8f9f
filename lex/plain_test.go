package lex_test

import (
	"errors"
	"math/rand"
	"regexp"
	"slices"
	"strings"
	"testing"

	"smithy/api"
	"smithy/lex"
)

// The plain scanner goes over a text three times: for what stands in it, for brackets, and for blocks. Each time ends at its
// first fault, and the first of the three from the left counts.

var (
	plainGap    = regexp.MustCompile(`^(?: |#[^\n]*)+`)
	plainName   = regexp.MustCompile(`^[A-Za-z_][A-Za-z0-9_]*`)
	plainDigits = regexp.MustCompile(`^[0-9][A-Za-z0-9_]*`)
	plainNumber = regexp.MustCompile(`^(?:0|[1-9][0-9]{0,599})$`)
	plainString = regexp.MustCompile(`^(?:'(?:[^'\\\n]|\\[^\n])*'|"(?:[^"\\\n]|\\[^\n])*")`)
	plainPiece  = regexp.MustCompile(`^(?:\\[nt\\"']|\\x[0-9a-fA-F]{2}|[^\\\x00-\x1f\x7f])`)
	plainSign   = regexp.MustCompile(`^(?:==|!=|<=|>=|\+=|//|[-<>=+*%()\[\]{},:.])`)
	plainBad    = regexp.MustCompile(`[\x00-\x1f\x7f]`)
)

const plainNone = 1 << 30 // the place of no fault

func isPlainWord(s string) bool {
	return slices.Contains(strings.Fields("and break continue def elif else for if in load not or pass return None True False"), s)
}

// plainSays is what the pieces of a string say, or the place of what is none.
func plainSays(pieces string) (string, int) {
	says := ""
	for i := 0; i < len(pieces); {
		piece := plainPiece.FindString(pieces[i:])
		switch {
		case piece == "":
			return "", i
		case strings.HasPrefix(piece, `\x`):
			digits := "0123456789abcdef"
			low := strings.ToLower(piece)
			says += string([]byte{byte(strings.IndexByte(digits, low[2])<<4 + strings.IndexByte(digits, low[3]))})
		case piece[0] == '\\':
			says += map[byte]string{'n': "\n", 't': "\t", '\\': `\`, '"': `"`, '\'': "'"}[piece[1]]
		default:
			says += piece
		}
		i += len(piece)
	}
	return says, plainNone
}

// plainOne is the one token with which rest begins, its length, and the place in it of its fault.
func plainOne(rest string) (kind int, text string, n, bad int) {
	if s := plainName.FindString(rest); s != "" {
		if isPlainWord(s) {
			return api.TSign, s, len(s), plainNone
		}
		return api.TName, s, len(s), plainNone
	}
	if s := plainDigits.FindString(rest); s != "" {
		if !plainNumber.MatchString(s) {
			return api.TInt, s, len(s), 0
		}
		return api.TInt, s, len(s), plainNone
	}
	if s := plainString.FindString(rest); s != "" {
		says, at := plainSays(s[1 : len(s)-1])
		return api.TStr, says, len(s), min(plainNone, at+1)
	}
	if s := plainSign.FindString(rest); s != "" {
		return api.TSign, s, len(s), plainNone
	}
	return 0, "", 1, 0
}

// plainRaw is what stands in the text, newlines as they are, up to a fault; what has the fault stands there, too.
func plainRaw(text string) ([]api.Token, int) {
	var l []api.Token
	for i := 0; i < len(text); {
		rest := text[i:]
		if gap := plainGap.FindString(rest); gap != "" {
			if bad := plainBad.FindStringIndex(gap); bad != nil {
				return l, i + bad[0]
			}
			i += len(gap)
			continue
		}
		if rest[0] == '\n' {
			l = append(l, api.Token{Kind: api.TNewline, Pos: i})
			i++
			continue
		}
		kind, says, n, bad := plainOne(rest)
		l = append(l, api.Token{Kind: kind, Text: says, Pos: i})
		if bad != plainNone {
			return l, i + bad
		}
		i += n
	}
	return l, plainNone
}

// plainBrackets takes the newlines within brackets away.
func plainBrackets(l []api.Token, length int) ([]api.Token, int) {
	var out []api.Token
	open := ""
	for _, x := range l {
		if x.Kind == api.TNewline && open != "" {
			continue
		}
		out = append(out, x)
		if x.Kind != api.TSign {
			continue
		}
		switch x.Text {
		case "(", "[", "{":
			open += x.Text
			if len(open) > api.MaxDeep {
				return out, x.Pos
			}
		case ")", "]", "}":
			pair := map[string]string{")": "(", "]": "[", "}": "{"}[x.Text]
			if !strings.HasSuffix(open, pair) {
				return out, x.Pos
			}
			open = open[:len(open)-1]
		}
	}
	if open != "" {
		return out, length
	}
	return out, plainNone
}

// plainBlocks lays blocks into what has newlines outside brackets alone, and takes those of lines without a token away.
func plainBlocks(text string, l []api.Token) ([]api.Token, int) {
	var out []api.Token
	blocks := []int{0}
	fresh := true
	for _, x := range append(l, api.Token{Kind: api.TNewline, Pos: len(text)}) {
		if x.Kind == api.TNewline {
			if !fresh {
				out = append(out, x)
			}
			fresh = true
			continue
		}
		if fresh {
			spaces := x.Pos - strings.LastIndexByte(text[:x.Pos], '\n') - 1
			kept := slices.IndexFunc(blocks, func(n int) bool { return n >= spaces })
			switch {
			case kept < 0 && len(blocks) > api.MaxDeep, kept >= 0 && blocks[kept] != spaces:
				return nil, x.Pos
			case kept < 0:
				blocks = append(blocks, spaces)
				out = append(out, api.Token{Kind: api.TIndent, Pos: x.Pos})
			default:
				for range blocks[kept+1:] {
					out = append(out, api.Token{Kind: api.TDedent, Pos: x.Pos})
				}
				blocks = blocks[:kept+1]
			}
			fresh = false
		}
		out = append(out, x)
	}
	for range blocks[1:] {
		out = append(out, api.Token{Kind: api.TDedent, Pos: len(text)})
	}
	return append(out, api.Token{Kind: api.TEnd, Pos: len(text)}), plainNone
}

func plainScan(text string) ([]api.Token, int) {
	raw, first := plainRaw(text)
	whole, second := plainBrackets(raw, len(text))
	all, third := plainBlocks(text, whole)
	return all, min(first, second, third)
}

func asPlain(t *testing.T, text string) {
	t.Helper()
	want, bad := plainScan(text)
	got, err := lex.Scan(text)
	if bad == plainNone {
		if err != nil || !slices.Equal(got, want) {
			t.Fatalf("Scan(%q): %s, %v; want %s", text, tell(got), err, tell(want))
		}
		return
	}
	var at *api.At
	if got != nil || !errors.As(err, &at) || at.Err != api.ErrLex || at.Pos != bad {
		t.Fatalf("Scan(%q): %s, %v; want ErrLex at %d", text, tell(got), err, bad)
	}
}

// eachText does it with every text of the pieces, with at most so many of them.
func eachText(pieces []string, most int, do func(text string)) {
	var next func(text string, more int)
	next = func(text string, more int) {
		do(text)
		if more == 0 {
			return
		}
		for _, p := range pieces {
			next(text+p, more-1)
		}
	}
	next("", most)
}

// P4.1: all short texts of bytes that have to do with one another.
func TestScanAllShort(t *testing.T) {
	for _, x := range []struct {
		pieces string
		most   int
	}{
		{"a| |\n", 9},
		{"a| |\n|(|)", 6},
		{"(|)|[|]|{|}|\n", 5},
		{"a| |\n|#|?", 6},
		{"0|1|a|_|.| ", 6},
		{"=|!|<|+|/|-", 5},
		{"'|\"|\\|\n|a", 6},
		{"'|\\|x|4|n|\x01", 6},
		{"'|\\|x|g|F|\x80|'", 6},
		{"a|'|#|\n|(|)|\\| ", 4},
		{"if|in|else|1| |_|not", 5},
	} {
		most := x.most
		if testing.Short() {
			most -= 2
		}
		eachText(strings.Split(x.pieces, "|"), most, func(text string) { asPlain(t, text) })
	}
}

// P4.1: long texts of pieces, most of them without a fault, and such with a byte of any kind laid in.
func TestScanRandom(t *testing.T) {
	random := rand.New(rand.NewSource(12))
	pieces := []string{
		"if", "not", "None", "a", "b1", "_", "0", "17", "'s'", "\"t\\n\"", "'\\x41\xfe'", "==", "=", "+=", "//", "<", ",", ":", ".",
		"(", ")", "[", "]", "{", "}", "(x)", "[1, 2]", "{'k': v}", "f(\n  x,\n y)", "# c\n", "#\u00e4\n", " ", " ", " ",
		"\n", "\n", "\n", "\n ", "\n  ", "\n   ", "\n\n", "x\n", "y:\n  ", "\n    # z\n",
	}
	rounds := 60000
	if testing.Short() {
		rounds = 5000
	}
	fine := 0
	for range rounds {
		text := ""
		for range random.Intn(14) {
			text += pieces[random.Intn(len(pieces))] + strings.Repeat(" ", random.Intn(3)/2)
		}
		if _, bad := plainScan(text); bad == plainNone {
			fine++
		}
		asPlain(t, text)
		at := random.Intn(len(text) + 1)
		asPlain(t, text[:at]+string([]byte{byte(random.Intn(256))})+text[at:])
	}
	if fine < rounds/8 {
		t.Error("too few are without a fault:", fine)
	}
}
