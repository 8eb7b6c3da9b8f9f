package lex_test

import (
	"math/rand"
	"slices"
	"strconv"
	"strings"
	"testing"

	"smithy/api"
	"smithy/lex"
)

// P4.2: the words, each once, by bytes.
func TestWords(t *testing.T) {
	want := strings.Fields("and break continue def elif else for if in load not or pass return None True False")
	slices.Sort(want)
	if got := lex.Words(); !slices.Equal(got, want) {
		t.Error(got)
	}
}

// P4.2: names, words, and what is neither.
func TestName(t *testing.T) {
	for _, s := range []string{"a", "Z", "_", "__", "a1", "_1", "abc_DEF_019", "none", "NONE", "true", "If", "iff", "i", "n", "notin", "_if", strings.Repeat("x", 1<<17)} {
		if !lex.Name(s) {
			t.Errorf("Name(%.40q): false", s)
		}
	}
	for _, s := range []string{"", " ", "0", "1a", "9_", "a ", " a", "a b", "a.b", "a-b", "a\n", "\na", "a\x00", "\u00e4", "a\u00e4", "a\xff", "'a'", "#", "a#", "+", strings.Repeat("x", 1<<17) + "?"} {
		if lex.Name(s) {
			t.Errorf("Name(%.40q): true", s)
		}
	}
	for _, w := range lex.Words() {
		if lex.Name(w) || !lex.Name(w+"_") || !lex.Name("_"+w) {
			t.Errorf("Name(%q)", w)
		}
	}
	for c := range 256 {
		b := string([]byte{byte(c)})
		letter := c == '_' || 'a' <= c && c <= 'z' || 'A' <= c && c <= 'Z'
		digit := '0' <= c && c <= '9'
		if lex.Name(b) != letter || lex.Name("a"+b) != (letter || digit) || lex.Name(b+"a") != letter {
			t.Errorf("Name of %q", b)
		}
	}
}

// P4.2: what Quote says of each byte.
func TestQuoteBytes(t *testing.T) {
	for c := range 256 {
		b := string([]byte{byte(c)})
		want := b
		switch {
		case c == '\n':
			want = `\n`
		case c == '\t':
			want = `\t`
		case c == '\\':
			want = `\\`
		case c == '"':
			want = `\"`
		case c < 16:
			want = `\x0` + strconv.FormatInt(int64(c), 16)
		case c < 32 || c == 127:
			want = `\x` + strconv.FormatInt(int64(c), 16)
		}
		for _, x := range [][2]string{{b, want}, {"a" + b, "a" + want}, {b + b, want + want}, {b + "41", want + "41"}, {"\\" + b, `\\` + want}} {
			if got := lex.Quote(x[0]); got != `"`+x[1]+`"` {
				t.Errorf("Quote(%q): %s", x[0], got)
			}
		}
	}
	if got := lex.Quote(""); got != `""` {
		t.Error(got)
	}
	if got := lex.Quote("'\u00e4\x1f"); got != "\"'\u00e4\\x1f\"" {
		t.Error(got)
	}
}

// quotes checks that the Quote of s is scanned as one TStr that says s.
func quotes(t *testing.T, s string) {
	t.Helper()
	q := lex.Quote(s)
	l, err := lex.Scan(q)
	want := []api.Token{{Kind: api.TStr, Text: s}, {Kind: api.TNewline, Pos: len(q)}, {Kind: api.TEnd, Pos: len(q)}}
	if err != nil || !slices.Equal(l, want) {
		t.Errorf("%.60q: %.60q: %.200s, %v", s, q, tell(l), err)
	}
}

// P4.3: Scan of what is quoted is one TStr that says it.
func TestScanQuote(t *testing.T) {
	quotes(t, "")
	all := ""
	for c := range 256 {
		b := string([]byte{byte(c)})
		all += b
		for _, s := range []string{b, b + b, b + "0", b + "41", "x" + b, "\\" + b, "\\x" + b, "\"" + b, b + "n", "'" + b + "'", "# " + b} {
			quotes(t, s)
		}
	}
	quotes(t, all)
	quotes(t, lex.Quote(all))
	quotes(t, lex.Quote(lex.Quote(all)))
	quotes(t, "\u00e4\u20ac\U0001f600\xf0\x28\x8c\x28")
	random := rand.New(rand.NewSource(4))
	for range 2000 {
		s := make([]byte, random.Intn(40))
		for i := range s {
			s[i] = byte(random.Intn(256))
		}
		quotes(t, string(s))
	}
}

// P4.3, at the limit: the quoted text has at most MaxText bytes, else it is Scan's ErrLimit.
func TestScanQuoteLimit(t *testing.T) {
	quotes(t, strings.Repeat("a", api.MaxText-2))
	quotes(t, strings.Repeat("\xff", api.MaxText-2))
	quotes(t, strings.Repeat("\x00", (api.MaxText-2)/4))
	quotes(t, strings.Repeat("\\", (api.MaxText-2)/2))
	for _, s := range []string{strings.Repeat("a", api.MaxText-1), strings.Repeat("\n", api.MaxText/2)} {
		if l, err := lex.Scan(lex.Quote(s)); l != nil || err != api.ErrLimit {
			t.Error(len(l), err)
		}
	}
}
