package str_test

import (
	"math"
	"strconv"
	"strings"
	"testing"

	"smithy/api"
	"smithy/str"
)

func checkReplace(t *testing.T, s, old, by string, most int, want string, wantErr error) {
	t.Helper()
	got, err := str.Replace(s, old, by, most)
	isText(t, "Replace("+strconv.Quote(s)+", "+strconv.Quote(old)+", "+strconv.Quote(by)+", "+strconv.Itoa(most)+")", got, err, want, wantErr)
}

// P11.1: Replace of all that are there, from the left and without overlap; what was put there isn't looked at again.
func TestReplaceAnswers(t *testing.T) {
	for _, x := range []struct{ s, old, by, want string }{
		{"abc", "b", "x", "axc"},
		{"abc", "x", "y", "abc"},
		{"abc", "abcd", "y", "abc"},
		{"", "a", "b", ""},
		{"abcabc", "b", "xy", "axycaxyc"},
		{"abcabc", "abc", "x", "xx"},
		{"aaa", "aa", "b", "ba"},
		{"aaaa", "aa", "b", "bb"},
		{"aaa", "a", "aa", "aaaaaa"},
		{"abc", "b", "abc", "aabcc"},
		{"abab", "ba", "b", "abb"},
		{"aabb", "ab", "", "ab"},
		{"abc", "b", "", "ac"},
		{"abc", "abc", "", ""},
		{"bbb", "b", "", ""},
		{"abc", "a", "x", "xbc"},
		{"abc", "c", "x", "abx"},
		{"abcabd", "abd", "x", "abcx"},
		{"aXx", "x", "y", "aXy"},
		{"a.c", ".", "$1", "a$1c"},
		{"\u00e4\u00f6", "\xc3", "A", "A\xa4A\xb6"},
		{"\xff\ufffd", "\xff", "x", "x\ufffd"},
		{"\xff\ufffd", "\ufffd", "x", "\xffx"},
		{"a\x00b", "\x00", "\n", "a\nb"},
	} {
		for _, most := range []int{-1, -7, math.MinInt, 6, 1000, math.MaxInt} {
			checkReplace(t, x.s, x.old, x.by, most, x.want, nil)
		}
		checkReplace(t, x.s, x.old, x.by, 0, x.s, nil)
	}
}

// P11.1: at most so many.
func TestReplaceMost(t *testing.T) {
	for most, want := range []string{"a-a-a", "b-a-a", "b-b-a", "b-b-b", "b-b-b"} {
		checkReplace(t, "a-a-a", "a", "b", most, want, nil)
	}
	for most, want := range []string{"aaaaa", "baaa", "bba", "bba"} {
		checkReplace(t, "aaaaa", "aa", "b", most, want, nil)
	}
	for most, want := range []string{"xx", "xxx", "xxxx", "xxxx"} {
		checkReplace(t, "xx", "x", "xx", most, want, nil)
	}
}

// P11.1: an empty old stands ahead of each byte, and at the end.
func TestReplaceNothing(t *testing.T) {
	for most, want := range []string{"abc", "-abc", "-a-bc", "-a-b-c", "-a-b-c-", "-a-b-c-"} {
		checkReplace(t, "abc", "", "-", most, want, nil)
	}
	checkReplace(t, "abc", "", "-", -1, "-a-b-c-", nil)
	checkReplace(t, "abc", "", "-", math.MinInt, "-a-b-c-", nil)
	checkReplace(t, "abc", "", "-", math.MaxInt, "-a-b-c-", nil)
	checkReplace(t, "abc", "", "xy", -1, "xyaxybxycxy", nil)
	checkReplace(t, "abc", "", "", -1, "abc", nil)
	checkReplace(t, "abc", "", "", 2, "abc", nil)
	checkReplace(t, "", "", "-", -1, "-", nil)
	checkReplace(t, "", "", "-", 5, "-", nil)
	checkReplace(t, "", "", "-", 1, "-", nil)
	checkReplace(t, "", "", "-", 0, "", nil)
	checkReplace(t, "", "", "", -1, "", nil)
	checkReplace(t, "\u00e4\xff", "", "-", -1, "-\xc3-\xa4-\xff-", nil)
	checkReplace(t, "\u00e4", "", "-", 2, "-\xc3-\xa4", nil)
}

// P11.1: as many bytes as may be made, and one more: of what stays, of what is put there, and of both.
func TestReplaceLimit(t *testing.T) {
	half := full()[:api.MaxItems/2]
	checkReplace(t, half, "x", "yy", -1, strings.Repeat("y", api.MaxItems), nil)
	checkReplace(t, half+"z", "x", "yy", -1, "", api.ErrLimit)
	checkReplace(t, "z"+half, "x", "yy", -1, "", api.ErrLimit)
	checkReplace(t, half, "x", "yyy", -1, "", api.ErrLimit)
	checkReplace(t, half, "x", "yy", len(half)-1, strings.Repeat("y", api.MaxItems-2)+"x", nil)
	checkReplace(t, full()[1:]+"a", "a", "b", -1, full()[1:]+"b", nil)
	checkReplace(t, full()[1:]+"a", "a", "bc", -1, "", api.ErrLimit)
	checkReplace(t, "a"+full()[1:], "a", "bc", -1, "", api.ErrLimit)
	checkReplace(t, "a"+full()[2:], "a", "bc", -1, "bc"+full()[2:], nil)
	checkReplace(t, half[1:], "", "z", -1, strings.Repeat("zx", len(half)-1)+"z", nil)
	checkReplace(t, half, "", "z", -1, "", api.ErrLimit)
	checkReplace(t, half, "", "z", len(half), strings.Repeat("zx", len(half)), nil)
	checkReplace(t, "", "", full(), -1, full(), nil)
	checkReplace(t, "", "", full()+"x", -1, "", api.ErrLimit)
	checkReplace(t, "a", "a", full()+"x", 1, "", api.ErrLimit)
	checkReplace(t, "a", "a", full()+"x", 0, "a", nil)
	checkReplace(t, "a", "b", strings.Repeat("x", 70000), -1, "a", nil)
}

// P11.1: what counts is what is made: of a text that is longer something may be made that is not.
func TestReplaceLong(t *testing.T) {
	checkReplace(t, full()+full(), "xx", "x", -1, full(), nil)
	checkReplace(t, full()+full()+"x", "xx", "x", -1, "", api.ErrLimit)
	checkReplace(t, strings.Repeat("x", 1<<20)+"y", "x", "", -1, "y", nil)
	checkReplace(t, strings.Repeat("xy", 1<<16), "xy", "", -1, "", nil)
	checkReplace(t, strings.Repeat("x", 70000)+"a", strings.Repeat("x", 70000), "b", -1, "ba", nil)
}

func plainReplace(s, old, by string, most int) string {
	if most == 0 || s == "" && old != "" {
		return s
	}
	if old == "" && s == "" {
		return by
	}
	if old == "" {
		return by + s[:1] + plainReplace(s[1:], old, by, most-1)
	}
	if strings.HasPrefix(s, old) {
		return by + plainReplace(s[len(old):], old, by, most-1)
	}
	return s[:1] + plainReplace(s[1:], old, by, most)
}

// P11.1: Replace of all short texts, against a plain second way.
func TestReplaceAllShort(t *testing.T) {
	olds := texts("ab", 3)
	for _, s := range texts("ab", lessShort(8)) {
		for _, old := range olds {
			for _, by := range []string{"", "a", "c", "ab", "bba"} {
				for most := -1; most < 4; most++ {
					checkReplace(t, s, old, by, most, plainReplace(s, old, by, most), nil)
				}
			}
		}
	}
}
