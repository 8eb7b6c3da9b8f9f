package str_test

import (
	"math"
	"strings"
	"testing"

	"smithy/str"
)

func checkFind(t *testing.T, s, what string, from, to, want int) {
	t.Helper()
	if got := str.Find(s, what, from, to); got != want {
		t.Errorf("Find(%.40q, %.40q, %d, %d): %d, want %d", s, what, from, to, got, want)
	}
}

// P11.1: the place, counted in the whole text, of the first that lies within the bounds.
func TestFindAnswers(t *testing.T) {
	for _, x := range []struct {
		s, what        string
		from, to, want int
	}{
		{"abcabc", "b", 0, 6, 1},
		{"abcabc", "b", 1, 6, 1},
		{"abcabc", "b", 2, 6, 4},
		{"abcabc", "b", 4, 5, 4},
		{"abcabc", "b", 5, 6, -1},
		{"abcabc", "b", 2, 4, -1},
		{"abcabc", "x", 0, 6, -1},
		{"abcabc", "bca", 0, 6, 1},
		{"abcabc", "bca", 1, 4, 1},
		{"abcabc", "bca", 1, 3, -1},
		{"abcabc", "bca", 2, 6, -1},
		{"abcabc", "abcabc", 0, 6, 0},
		{"abcabc", "abcabc", 0, 5, -1},
		{"abcabc", "abcabc", 1, 6, -1},
		{"abcabc", "abcabcd", 0, 6, -1},
		{"aaab", "aab", 0, 4, 1},
		{"", "a", 0, 0, -1},
		{"a", "a", 0, 1, 0},
		{"a", "a", 0, 0, -1},
		{"aB", "b", 0, 2, -1},
		{"\u00e4", "\xa4", 0, 2, 1},
		{"\xff\ufffd", "\ufffd", 0, 4, 1},
		{"\ufffd\xff", "\xff", 0, 4, 3},
	} {
		checkFind(t, x.s, x.what, x.from, x.to, x.want)
	}
}

// P11.1: bounds below 0, past the end, and the one behind the other.
func TestFindBounds(t *testing.T) {
	for _, x := range []struct{ from, to, want int }{
		{-3, 6, 4}, {-2, 6, 4}, {-1, 6, -1}, {-6, 6, 1}, {-99, 6, 1}, {math.MinInt, 6, 1},
		{0, 7, 1}, {0, 99, 1}, {0, math.MaxInt, 1}, {2, math.MaxInt, 4},
		{0, -1, 1}, {0, -4, 1}, {0, -5, -1}, {0, -99, -1}, {0, math.MinInt, -1},
		{2, -1, 4}, {2, -2, -1}, {-3, -1, 4}, {-3, -2, -1},
		{6, 6, -1}, {7, 99, -1}, {math.MaxInt, math.MaxInt, -1}, {math.MaxInt, math.MinInt, -1},
		{4, 2, -1}, {2, 1, -1}, {1, 1, -1}, {5, 0, -1}, {-1, -3, -1},
	} {
		checkFind(t, "abcabc", "b", x.from, x.to, x.want)
	}
}

// P11.1: an empty what is at the first bound.
func TestFindNothing(t *testing.T) {
	for _, x := range []struct{ from, to, want int }{
		{0, 3, 0}, {1, 3, 1}, {1, 1, 1}, {3, 3, 3}, {4, 4, 3}, {99, 0, 3}, {2, 1, 2}, {-1, 3, 2}, {-3, 3, 0}, {-4, 3, 0}, {-1, -3, 2}, {math.MinInt, math.MaxInt, 0}, {math.MaxInt, math.MinInt, 3},
	} {
		checkFind(t, "abc", "", x.from, x.to, x.want)
	}
	checkFind(t, "", "", 0, 0, 0)
	checkFind(t, "", "", -5, 5, 0)
	checkFind(t, "", "", 5, -5, 0)
}

func plainFind(s, what string, from, to int) int {
	from, to = plainCut(len(s), from, to, true, true)
	for i := from; i+len(what) <= to; i++ {
		if s[i:i+len(what)] == what {
			return i
		}
	}
	return -1
}

// P11.1: Find in all short texts, against a plain second way.
func TestFindAllShort(t *testing.T) {
	whats := texts("ab", 3)
	for _, s := range texts("ab", lessShort(6)) {
		for _, what := range whats {
			for from := -len(s) - 2; from < len(s)+3; from++ {
				for to := -len(s) - 2; to < len(s)+3; to++ {
					checkFind(t, s, what, from, to, plainFind(s, what, from, to))
				}
			}
		}
	}
}

func checkCount(t *testing.T, s, what string, want int) {
	t.Helper()
	if got := str.Count(s, what); got != want {
		t.Errorf("Count(%.40q, %.40q): %d, want %d", s, what, got, want)
	}
}

// P11.1: Count from the left, without overlap; of an empty what the bytes and 1.
func TestCountAnswers(t *testing.T) {
	for _, x := range []struct {
		s, what string
		want    int
	}{
		{"abcabc", "b", 2},
		{"abcabc", "x", 0},
		{"abcabc", "abc", 2},
		{"abc", "abcd", 0},
		{"abc", "abc", 1},
		{"", "a", 0},
		{"aaa", "a", 3},
		{"aaa", "aa", 1},
		{"aaaa", "aa", 2},
		{"aaaaa", "aa", 2},
		{"ababa", "aba", 1},
		{"abababa", "aba", 2},
		{"aA", "a", 1},
		{"", "", 1},
		{"a", "", 2},
		{"abc", "", 4},
		{"\u00e4", "", 3},
		{"\xff\xff\xff", "", 4},
		{"\u00e4\u00f6", "\xc3", 2},
		{"\xff\ufffd", "\xff", 1},
		{"\x00a\x00", "\x00", 2},
	} {
		checkCount(t, x.s, x.what, x.want)
	}
}

// P11.1: Find and Count in texts that are longer than what may be made at once.
func TestFindLong(t *testing.T) {
	const n = 1 << 20
	long := strings.Repeat("a", n)
	checkFind(t, long+"b", "b", 0, n+1, n)
	checkFind(t, long+"b", "b", -1, n+1, n)
	checkFind(t, long+"b", long+"b", 0, n+1, 0)
	checkFind(t, long, long+"b", 0, n, -1)
	checkFind(t, long, long[:n/2]+"b", 0, n, -1)
	checkFind(t, long, "", n, n, n)
	checkCount(t, long, "a", n)
	checkCount(t, long, "aaa", n/3)
	checkCount(t, long, "", n+1)
	checkCount(t, long, long, 1)
	checkCount(t, long, long[:n/2], 2)
}

// P11.1: Count in all short texts, against a plain second way.
func TestCountAllShort(t *testing.T) {
	whats := texts("ab", 4)
	for _, s := range texts("ab", lessShort(9)) {
		for _, what := range whats {
			want := len(s) + 1
			if what != "" {
				want = len(plainSplit(s, what, -1)) - 1
			}
			checkCount(t, s, what, want)
		}
	}
}
