package str_test

import (
	"math"
	"slices"
	"strings"
	"testing"

	"smithy/api"
	"smithy/str"
)

func checkStrip(t *testing.T, s, bytes, both, left, right string) {
	t.Helper()
	for _, x := range []struct {
		left, right bool
		want        string
	}{{true, true, both}, {true, false, left}, {false, true, right}, {false, false, s}} {
		if got := str.Strip(s, bytes, x.left, x.right); got != x.want {
			t.Errorf("Strip(%.40q, %.40q, %v, %v): %.40q (%d bytes), want %.40q (%d bytes)", s, bytes, x.left, x.right, got, len(got), x.want, len(x.want))
		}
	}
}

// P11.2: Strip of given bytes at the left, the right, both and neither.
func TestStripAnswers(t *testing.T) {
	checkStrip(t, "xxaxx", "x", "a", "axx", "xxa")
	checkStrip(t, "xyaxby", "xy", "axb", "axby", "xyaxb")
	checkStrip(t, "xyaxby", "yx", "axb", "axby", "xyaxb")
	checkStrip(t, "xyaxby", "yxyxxx", "axb", "axby", "xyaxb")
	checkStrip(t, "yxa", "xy", "a", "a", "yxa")
	checkStrip(t, "axy", "xy", "a", "axy", "a")
	checkStrip(t, "abc", "x", "abc", "abc", "abc")
	checkStrip(t, "xXa", "x", "Xa", "Xa", "xXa")
	checkStrip(t, "xxx", "x", "", "", "")
	checkStrip(t, "x", "x", "", "", "")
	checkStrip(t, "xyx", "xy", "", "", "")
	checkStrip(t, "", "x", "", "", "")
	checkStrip(t, "", "", "", "", "")
	checkStrip(t, " xax ", "x", " xax ", " xax ", " xax ")
	checkStrip(t, " xax ", "x ", "a", "ax ", " xa")
	checkStrip(t, "\ta\n", " ", "\ta\n", "\ta\n", "\ta\n")
	checkStrip(t, "a-c", "a-c", "", "", "")
	checkStrip(t, "abc", "a-c", "b", "bc", "ab")
	checkStrip(t, "\x00a\x00", "\x00", "a", "a\x00", "\x00a")
	checkStrip(t, "abc", "b", "abc", "abc", "abc")
}

// P11.2: bytes are stripped, not runes.
func TestStripBytes(t *testing.T) {
	checkStrip(t, "\u00e4a\u00e4", "\xc3", "\xa4a\u00e4", "\xa4a\u00e4", "\u00e4a\u00e4")
	checkStrip(t, "\u00e4a\u00f6", "\u00e4", "a\u00f6", "a\u00f6", "\u00e4a\u00f6")
	checkStrip(t, "\u00e4a\u00c4", "\xa4\xc3\x84", "a", "a\u00c4", "\u00e4a")
	checkStrip(t, "\xc3a", "\u00e4", "a", "a", "\xc3a")
	checkStrip(t, "\ufffda\xff", "\xff", "\ufffda", "\ufffda\xff", "\ufffda")
	checkStrip(t, "\xffa\ufffd", "\ufffd", "\xffa", "\xffa\ufffd", "\xffa")
	for b := range 256 {
		x, other := string([]byte{byte(b)}), string([]byte{byte(b) ^ 1})
		checkStrip(t, x+x+other+x, x, other, other+x, x+x+other)
	}
}

// P11.2: where no bytes are given, those of Words are stripped.
func TestStripBlanks(t *testing.T) {
	checkStrip(t, " \t\n\r\v\fa b\f\v\r\n\t ", "", "a b", "a b\f\v\r\n\t ", " \t\n\r\v\fa b")
	checkStrip(t, "   ", "", "", "", "")
	checkStrip(t, "ab", "", "ab", "ab", "ab")
	checkStrip(t, "\u00a0a\u2003", "", "\u00a0a\u2003", "\u00a0a\u2003", "\u00a0a\u2003")
	for b := range 256 {
		x := string([]byte{byte(b)})
		if slices.Contains([]int{9, 10, 11, 12, 13, 32}, b) {
			checkStrip(t, x+"ab"+x, "", "ab", "ab"+x, x+"ab")
			continue
		}
		checkStrip(t, x+"ab"+x, "", x+"ab"+x, x+"ab"+x, x+"ab"+x)
	}
}

// P11.2: Strip of all short texts, against a plain second way.
func TestStripAllShort(t *testing.T) {
	strip := func(s, bytes string) string {
		for s != "" && strings.Contains(bytes, s[:1]) {
			s = s[1:]
		}
		return s
	}
	turned := func(s string) string {
		l := []byte(s)
		slices.Reverse(l)
		return string(l)
	}
	for _, s := range texts("ab \n", lessShort(6)) {
		for _, bytes := range []string{"", "a", "b", "ab", "ba", " ", "\na", "c"} {
			among := bytes
			if bytes == "" {
				among = " \n\t\r\v\f"
			}
			right := turned(strip(turned(s), among))
			checkStrip(t, s, bytes, strip(right, among), strip(s, among), right)
		}
	}
}

// P11.2: Upper and Lower turn the letters a to z, and A to Z, and nothing else.
func TestUpperLower(t *testing.T) {
	for _, x := range []struct{ s, upper, lower string }{
		{"", "", ""},
		{"aBc", "ABC", "abc"},
		{"abcdefghijklmnopqrstuvwxyz", "ABCDEFGHIJKLMNOPQRSTUVWXYZ", "abcdefghijklmnopqrstuvwxyz"},
		{"ABCDEFGHIJKLMNOPQRSTUVWXYZ", "ABCDEFGHIJKLMNOPQRSTUVWXYZ", "abcdefghijklmnopqrstuvwxyz"},
		{"a1_-Z", "A1_-Z", "a1_-z"},
		{"@[`{", "@[`{", "@[`{"},
		{"x\u00e4\u00c4y", "X\u00e4\u00c4Y", "x\u00e4\u00c4y"},
		{"\u00df\u0131\u017f\u212a", "\u00df\u0131\u017f\u212a", "\u00df\u0131\u017f\u212a"},
		{"a\xff\x80\xe1b", "A\xff\x80\xe1B", "a\xff\x80\xe1b"},
		{"\x00a\nB", "\x00A\nB", "\x00a\nb"},
	} {
		if got := str.Upper(x.s); got != x.upper {
			t.Errorf("Upper(%q): %q", x.s, got)
		}
		if got := str.Lower(x.s); got != x.lower {
			t.Errorf("Lower(%q): %q", x.s, got)
		}
	}
}

// P11.2: Upper and Lower of each byte, alone and in one text.
func TestUpperLowerBytes(t *testing.T) {
	var upper, lower []byte
	for b := range 256 {
		up, low := byte(b), byte(b)
		if at := strings.IndexByte("abcdefghijklmnopqrstuvwxyz", up); at >= 0 {
			up = "ABCDEFGHIJKLMNOPQRSTUVWXYZ"[at]
		}
		if at := strings.IndexByte("ABCDEFGHIJKLMNOPQRSTUVWXYZ", low); at >= 0 {
			low = "abcdefghijklmnopqrstuvwxyz"[at]
		}
		if s := string([]byte{byte(b)}); str.Upper(s) != string([]byte{up}) || str.Lower(s) != string([]byte{low}) {
			t.Errorf("byte %d: %q, %q", b, str.Upper(s), str.Lower(s))
		}
		upper, lower = append(upper, up), append(lower, low)
	}
	if str.Upper(each()) != string(upper) || str.Lower(each()) != string(lower) {
		t.Errorf("of all bytes: %q, %q", str.Upper(each()), str.Lower(each()))
	}
}

// P11.2: Strip, Upper, Lower, IsDigits of a text longer than what may be made at once, as a file's may be.
func TestTurnLong(t *testing.T) {
	const n = 1 << 16
	spaces, letters, capitals := strings.Repeat(" ", n), strings.Repeat("ab", n), strings.Repeat("AB", n)
	checkStrip(t, spaces+letters+spaces, "", letters, letters+spaces, spaces+letters)
	checkStrip(t, letters, letters, "", "", "")
	if str.Upper(letters) != capitals || str.Lower(capitals) != letters {
		t.Error("Upper, Lower")
	}
	if digits := strings.Repeat("0123456789", n); !str.IsDigits(digits) || str.IsDigits(digits+".") || str.IsDigits("."+digits) {
		t.Error("IsDigits")
	}
}

// P11.2: Repeat, up to as many bytes as may be made and one more.
func TestRepeat(t *testing.T) {
	for _, x := range []struct {
		s    string
		n    int
		want string
		err  error
	}{
		{"ab", 3, "ababab", nil},
		{"ab", 1, "ab", nil},
		{"ab", 0, "", nil},
		{"ab", -1, "", nil},
		{"ab", math.MinInt, "", nil},
		{"", 0, "", nil},
		{"", 5, "", nil},
		{"", -5, "", nil},
		{"", math.MaxInt, "", nil},
		{"", math.MinInt, "", nil},
		{"x", api.MaxItems, full(), nil},
		{"x", api.MaxItems + 1, "", api.ErrLimit},
		{"x", math.MaxInt, "", api.ErrLimit},
		{"xx", api.MaxItems / 2, full(), nil},
		{"xx", api.MaxItems/2 + 1, "", api.ErrLimit},
		{"ab", math.MaxInt, "", api.ErrLimit},
		{"abcd", math.MaxInt/4 + 2, "", api.ErrLimit},
		{"abcd", 1 << 62, "", api.ErrLimit},
		{"abc", 341, strings.Repeat("abc", 341), nil},
		{"abc", 342, "", api.ErrLimit},
		{full(), 1, full(), nil},
		{full(), 2, "", api.ErrLimit},
		{full()[1:], 1, full()[1:], nil},
		{full()[1:], 2, "", api.ErrLimit},
		{full() + "x", 1, "", api.ErrLimit},
		{full() + "x", 0, "", nil},
		{full() + "x", -1, "", nil},
		{full() + "x", math.MaxInt, "", api.ErrLimit},
		{"\xff\x00", 2, "\xff\x00\xff\x00", nil},
	} {
		got, err := str.Repeat(x.s, x.n)
		isText(t, "Repeat", got, err, x.want, x.err)
	}
	for n := range 5 * api.MaxItems {
		want, wantErr := strings.Repeat("abcde", n), error(nil)
		if len(want) > api.MaxItems {
			want, wantErr = "", api.ErrLimit
		}
		got, err := str.Repeat("abcde", n)
		isText(t, "Repeat", got, err, want, wantErr)
	}
}

// P11.2: one byte or more, all digits.
func TestIsDigits(t *testing.T) {
	for _, s := range []string{"0", "9", "007", "0123456789", strings.Repeat("1", 1000)} {
		if !str.IsDigits(s) {
			t.Errorf("%q", s)
		}
	}
	for _, s := range []string{"", " ", "-1", "+1", "1.5", ".", "1 ", " 1", "1a", "a1", "1_0", "1e5", "0x1", "\u0663", "1\u0663", "\u00b2", "\uff11", "1\n", "\x001", "1\xff"} {
		if str.IsDigits(s) {
			t.Errorf("%q", s)
		}
	}
	for b := range 256 {
		s, is := string([]byte{byte(b)}), b >= '0' && b <= '9'
		if str.IsDigits(s) != is || str.IsDigits("1"+s) != is || str.IsDigits(s+"1") != is || str.IsDigits("1"+s+"1") != is {
			t.Errorf("byte %d", b)
		}
	}
}
