package sha_test

import (
	"encoding/binary"
	"encoding/hex"
	"slices"
	"strings"
	"testing"

	"smithy/api"
	"smithy/sha"
)

func plainMany(l ...string) sha.Sum {
	var b []byte
	for _, text := range l {
		b = binary.BigEndian.AppendUint32(b, uint32(len(text)))
		b = append(b, text...)
	}
	return sha.Of(b)
}

// P2.1: each byte at each place, as small digits, and back.
func TestTextAndBack(t *testing.T) {
	for place := range len(sha.Sum{}) {
		for b := range 256 {
			s := sha.Of([]byte{byte(place)})
			s[place] = byte(b)
			text := sha.Text(s)
			if text != hex.EncodeToString(s[:]) {
				t.Fatalf("Text of %x: %s", s, text)
			}
			if back, err := sha.Parse(text); back != s || err != nil {
				t.Fatalf("Parse of %s: %x, %v", text, back, err)
			}
		}
	}
}

func TestTextEdges(t *testing.T) {
	var full sha.Sum
	for i := range full {
		full[i] = 0xff
	}
	for _, x := range []struct {
		s    sha.Sum
		text string
	}{
		{sha.Sum{}, strings.Repeat("0", 64)},
		{full, strings.Repeat("f", 64)},
		{sha.Sum{0: 0x01, 1: 0x9a, 31: 0xf0}, "019a" + strings.Repeat("0", 58) + "f0"},
	} {
		if got := sha.Text(x.s); got != x.text {
			t.Errorf("Text of %x: %s", x.s, got)
		}
		if got, err := sha.Parse(x.text); got != x.s || err != nil {
			t.Errorf("Parse of %s: %x, %v", x.text, got, err)
		}
	}
}

func checkNoDigest(t *testing.T, s string) {
	t.Helper()
	if got, err := sha.Parse(s); got != (sha.Sum{}) || err != api.ErrShape {
		t.Errorf("Parse(%.80q): %x, %v", s, got, err)
	}
}

// P2.1: texts that are too short or too long, each of right signs.
func TestParseLengths(t *testing.T) {
	for n := range 200 {
		if n != 64 {
			checkNoDigest(t, strings.Repeat("a", n))
		}
	}
	d := sha.Text(sha.Of(nil))
	for _, s := range []string{d + d, d + " ", " " + d, d + "\n", "0x" + d, d[:62], d + "\x00", d[:32] + " " + d[32:]} {
		checkNoDigest(t, s)
	}
}

// P2.1: each byte that is no small digit, at each place.
func TestParseSigns(t *testing.T) {
	d := sha.Text(sha.Of([]byte("abc")))
	for place := range len(d) {
		for b := range 256 {
			s := d[:place] + string([]byte{byte(b)}) + d[place+1:]
			if strings.IndexByte("0123456789abcdef", byte(b)) < 0 {
				checkNoDigest(t, s)
			} else if got, err := sha.Parse(s); sha.Text(got) != s || err != nil {
				t.Fatalf("Parse(%q): %x, %v", s, got, err)
			}
		}
	}
	checkNoDigest(t, strings.ToUpper(d))
	checkNoDigest(t, strings.Repeat("\u00e4", 32))
	checkNoDigest(t, d[:62]+"\u0661")
	checkNoDigest(t, strings.Repeat("\u0661", 64))
}

// P2.2: each text behind its length, the highest byte first.
func TestManyAnswers(t *testing.T) {
	for _, x := range []struct {
		l    []string
		want string
	}{
		{nil, ""},
		{[]string{}, ""},
		{[]string{""}, "\x00\x00\x00\x00"},
		{[]string{"", ""}, "\x00\x00\x00\x00\x00\x00\x00\x00"},
		{[]string{"abc"}, "\x00\x00\x00\x03abc"},
		{[]string{"a", "bc"}, "\x00\x00\x00\x01a\x00\x00\x00\x02bc"},
		{[]string{"ab", "c"}, "\x00\x00\x00\x02ab\x00\x00\x00\x01c"},
		{[]string{"ab", "", "c"}, "\x00\x00\x00\x02ab\x00\x00\x00\x00\x00\x00\x00\x01c"},
		{[]string{"\u00e4\x00"}, "\x00\x00\x00\x03\xc3\xa4\x00"},
		{[]string{"\xff"}, "\x00\x00\x00\x01\xff"},
		{[]string{strings.Repeat("a", 255)}, "\x00\x00\x00\xff" + strings.Repeat("a", 255)},
		{[]string{strings.Repeat("a", 256)}, "\x00\x00\x01\x00" + strings.Repeat("a", 256)},
		{[]string{strings.Repeat("a", 0x12345)}, "\x00\x01\x23\x45" + strings.Repeat("a", 0x12345)},
		{[]string{strings.Repeat("a", 0x1020304), "b"}, "\x01\x02\x03\x04" + strings.Repeat("a", 0x1020304) + "\x00\x00\x00\x01b"},
	} {
		if got := sha.Many(x.l...); got != sha.Of([]byte(x.want)) {
			t.Errorf("Many(%.80q): %x", x.l, got)
		}
	}
}

// P2.2: texts of all lengths, so that they end at all places of a block.
func TestManyLengths(t *testing.T) {
	text := strings.Repeat("smithy ", 30)
	for n := range 140 {
		for _, m := range []int{0, 1, 51, 52, 59, 60, 61, 64, 127, 200} {
			if sha.Many(text[:n], text[:m], text[n:]) != plainMany(text[:n], text[:m], text[n:]) {
				t.Errorf("%d, %d", n, m)
			}
		}
	}
}

// P2.2: lists that are not the same have not the same digest, where one ends and the next begins too.
func TestManyApart(t *testing.T) {
	lists := [][]string{
		nil, {""}, {"", ""}, {"abc"}, {"a", "bc"}, {"ab", "c"}, {"a", "b", "c"}, {"", "abc"}, {"abc", ""},
		{"bc", "a"}, {"a", "", "bc"}, {"a\x00\x00\x00\x02bc"}, {"\x00\x00\x00\x00"},
	}
	seen := map[sha.Sum][]string{}
	for _, l := range lists {
		s := sha.Many(l...)
		if other, ok := seen[s]; ok {
			t.Errorf("%q and %q", l, other)
		}
		seen[s] = l
	}
}

// P2.2, P0.4: the list is left alone, and what lies behind its length isn't read.
func TestManyMemory(t *testing.T) {
	room := []string{"a", "bc", "behind"}
	if sha.Many(room[:2]...) != plainMany("a", "bc") {
		t.Error("behind the length")
	}
	if !slices.Equal(room, []string{"a", "bc", "behind"}) {
		t.Error(room)
	}
}
