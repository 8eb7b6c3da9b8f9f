package lex_test

import (
	"errors"
	"strings"
	"testing"

	"smithy/api"
	"smithy/lex"
)

// P4.1: signs that are none, or none alone.
func TestFaultSigns(t *testing.T) {
	faults(t, "!", 0)
	faults(t, "a ! = b", 2)
	faults(t, "/", 0)
	faults(t, "a /= b", 2)
	faults(t, "a///b", 3)
	faults(t, "a; b", 1)
	faults(t, "a\\\nb", 1)
	faults(t, "a\tb", 1)
	faults(t, "\ta", 0)
	faults(t, "a\r\nb", 1)
	faults(t, "a\n \n\v", 4)
	faults(t, "a\u00e4", 1)
	faults(t, "\ufeffa", 0)
	faults(t, "a\u00a0b", 1)
}

// P4.1: numbers that go on, that have a 0 ahead, that are too long: at their beginning.
func TestFaultNumbers(t *testing.T) {
	for _, n := range []string{
		"00", "01", "0123", "000", "0_", "0a", "0x1", "0Z", "1a", "1_", "1_000", "12e3", "1z", "1A", "9Z9", "1__",
		strings.Repeat("1", api.MaxDigits+1), strings.Repeat("9", api.MaxText-2),
		strings.Repeat("1", api.MaxDigits) + "a", strings.Repeat("0", api.MaxDigits), strings.Repeat("1", api.MaxDigits+1) + "?",
	} {
		faults(t, n, 0)
		faults(t, "+"+n, 1)
		faults(t, "a\n"+n, 2)
	}
	faults(t, "1.05", 2)
	faults(t, "1?", 1)
	faults(t, "1\u00e4", 1)
	faults(t, "0\x01", 1)
}

// P4.1: a string that has no end on its line, at its beginning.
func TestFaultNoEnd(t *testing.T) {
	for _, text := range []string{
		"'", `"`, "'a", `'a"`, `"a'`, "'a\n'", "'\n", "'a # '"[:4],
		`'\`, "'\\\n'", "'\\\n", `'\'`, `'\\\'`, `'a\`, "'a\\\n", `'\x`, `'\x4`, `'\x41`, `'\q`, "'\\q\n'", `'\x\'`,
		"'\x01", "'\x7f\n'", "'a\x01\\q", "'\\\x01", "'\\\x80", "'" + strings.Repeat("a", api.MaxText-1),
	} {
		faults(t, text, 0)
		if len(text) < api.MaxText-2 {
			faults(t, "x "+text, 2)
			faults(t, "(\n"+text, 2)
		}
	}
	faults(t, "'a' 'b", 4)
	faults(t, "'a''", 3)
	faults(t, `'\\''`, 4)
	faults(t, "'\\\\'\n'", 5)
}

// P4.1: a `\` that no piece has, at it; a byte that may not be, there: the first of them.
func TestFaultPieces(t *testing.T) {
	for _, piece := range []string{
		`\q`, `\a`, `\r`, `\0`, `\N`, `\T`, `\X41`, `\ `, `\#`, `\u00e4`, "\\\x80", "\\\x01", "\\\x7f", "\\\t",
		`\x`, `\x4`, `\x4g`, `\xg4`, `\xG4`, `\x 4`, `\x-1`, `\x+1`, `\x4_`, `\x_4`, `\x\x`, `\x4\x41`, `\x\\`, `\x4\"`, `\x/0`, `\x0:`, `\x@0`, "\\x`0", "\\x\x80\x80",
	} {
		for _, quote := range []string{"'", `"`} {
			faults(t, quote+piece+quote, 1)
			faults(t, quote+"a\\n"+piece+"z"+quote, 4)
			faults(t, "x\n  y "+quote+"ab"+piece+"\x01"+piece+quote, 9)
			faults(t, quote+"a\x01"+piece+quote, 2)
		}
	}
	faults(t, "'a\x7f\x01'", 2)
	faults(t, "'a\x01\x7f'", 2)
	faults(t, `'\x4''`, 1)
	faults(t, `'\x''41'`, 1)
	faults(t, `'\x'41`, 1)
	faults(t, `'\q' 'a`, 1)
	faults(t, `'\\q\q'`, 4)
}

// P4.1: of several faults the first one from the left.
func TestFaultFirst(t *testing.T) {
	faults(t, "a ? 'b", 2)
	faults(t, "'b ?", 0)
	faults(t, "01 ?", 0)
	faults(t, "? 01", 0)
	faults(t, ") 01", 0)
	faults(t, "(] ?", 1)
	faults(t, "(? ]", 1)
	faults(t, "( # \x01\n", 4)
	faults(t, "(\n?", 2)
	faults(t, "( 'a", 2)
	faults(t, "(01", 1)
	faults(t, "a\n  b\n c ?", 7)
	faults(t, "a ?\n  b\n c", 2)
	faults(t, "a\n  b\n 'c", 7)
	faults(t, "a\n  b\n '\\q'", 7)
	faults(t, "a\n  b\n '\x01'", 7)
	faults(t, "a\n  b\n 01", 7)
	faults(t, "a\n  b\n )", 7)
	faults(t, "a\n  b\n #\x01\n c", 8)
	faults(t, "a\n  '\\q'\n c", 5)
	faults(t, "1a 2b", 0)
	faults(t, strings.Repeat("(", api.MaxDeep+1)+"]", api.MaxDeep)
	deeper, at := stair(api.MaxDeep + 2)
	faults(t, deeper[:at[api.MaxDeep+1]]+"'\\q'", at[api.MaxDeep+1])
	faults(t, "?"+deeper[1:], 0)
}

// P4.1: a text of MaxText bytes, and ErrLimit of one more, whatever it is.
func TestScanLimit(t *testing.T) {
	for _, unit := range []string{" ", "\n", "a", "#", "a\n", "'' ", "()", "?", "'", "\x00", "0"} {
		text := strings.Repeat(unit, api.MaxText/len(unit)+1)
		full := text[:api.MaxText]
		l, err := lex.Scan(full)
		if errors.Is(err, api.ErrLimit) || (err == nil) != (l != nil) {
			t.Errorf("%q: %d, %v", unit, len(l), err)
		}
		for _, over := range []string{full + "a", full + "\n", full + "?", full + full} {
			if l, err := lex.Scan(over); l != nil || err != api.ErrLimit {
				t.Errorf("%q: %d, %v", unit, len(l), err)
			}
		}
	}
	scans(t, strings.Repeat("\n", api.MaxText), "END@65536")
	scans(t, strings.Repeat(" ", api.MaxText-1)+"a", "IN@65535 a@65535 NL@65536 DE@65536 END@65536")
}

// P0.4: each list that Scan and Words hand out is new memory, spare room too; each error is its own.
func TestNewMemory(t *testing.T) {
	const text = "a\n  b 'c'"
	a, _ := lex.Scan(text)
	b, _ := lex.Scan(text)
	want := tell(b)
	for i := range a {
		a[i] = api.Token{}
	}
	clear(a[len(a):cap(a)])
	if tell(b) != want {
		t.Error(tell(b))
	}
	scans(t, text, want)
	_, err := lex.Scan("?")
	var at *api.At
	if errors.As(err, &at) {
		at.Pos = 7
	}
	faults(t, "?", 0)
	words := lex.Words()
	for i := range words {
		words[i] = "x"
	}
	_ = append(words, "y")
	if again := lex.Words(); again[0] != "False" || len(again) != 17 || !isPlainWord("if") || lex.Name("if") || !lex.Name("x") {
		t.Error(again)
	}
}
