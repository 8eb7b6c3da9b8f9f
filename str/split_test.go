package str_test

import (
	"math"
	"slices"
	"strconv"
	"strings"
	"testing"

	"smithy/api"
	"smithy/str"
)

func checkSplit(t *testing.T, s, by string, most int, want []string, wantErr error) {
	t.Helper()
	got, err := str.Split(s, by, most)
	isList(t, "Split("+strconv.Quote(s)+", "+strconv.Quote(by)+", "+strconv.Itoa(most)+")", got, err, want, wantErr)
}

// P11.1: Split by one byte and by several, by what is not there, by what stands at the ends or twice in a row.
func TestSplitAnswers(t *testing.T) {
	for _, x := range []struct {
		s, by string
		want  []string
	}{
		{"a,b,c", ",", []string{"a", "b", "c"}},
		{"abc", ",", []string{"abc"}},
		{"abc", "abcd", []string{"abc"}},
		{"", ",", []string{""}},
		{",", ",", []string{"", ""}},
		{",a,", ",", []string{"", "a", ""}},
		{"a,,b", ",", []string{"a", "", "b"}},
		{",,,", ",", []string{"", "", "", ""}},
		{"a::b::c", "::", []string{"a", "b", "c"}},
		{"::a::", "::", []string{"", "a", ""}},
		{"a:::b", "::", []string{"a", ":b"}},
		{"a::::b", "::", []string{"a", "", "b"}},
		{"a:b", "::", []string{"a:b"}},
		{"aaa", "aa", []string{"", "a"}},
		{"abab", "ab", []string{"", "", ""}},
		{"abcabd", "abd", []string{"abc", ""}},
		{"aabaab", "aab", []string{"", "", ""}},
		{"abc", "abc", []string{"", ""}},
		{"a b  c", " ", []string{"a", "b", "", "c"}},
		{"a\x00b", "\x00", []string{"a", "b"}},
		{"a\nb\n", "\n", []string{"a", "b", ""}},
		{"aXbxc", "x", []string{"aXb", "c"}},
		{"\u00e4\u00f6", "\xc3", []string{"", "\xa4", "\xb6"}},
		{"\xff\xfe\xff", "\xfe", []string{"\xff", "\xff"}},
		{"a\ufffdb\xffc", "\xff", []string{"a\ufffdb", "c"}},
	} {
		checkSplit(t, x.s, x.by, -1, x.want, nil)
	}
}

// P11.1: at most so many cuts, from the left; below 0: all.
func TestSplitMost(t *testing.T) {
	for _, x := range []struct {
		most int
		want []string
	}{
		{0, []string{"a,b,,c"}},
		{1, []string{"a", "b,,c"}},
		{2, []string{"a", "b", ",c"}},
		{3, []string{"a", "b", "", "c"}},
		{4, []string{"a", "b", "", "c"}},
		{1000, []string{"a", "b", "", "c"}},
		{math.MaxInt, []string{"a", "b", "", "c"}},
		{-1, []string{"a", "b", "", "c"}},
		{-2, []string{"a", "b", "", "c"}},
		{math.MinInt, []string{"a", "b", "", "c"}},
	} {
		checkSplit(t, "a,b,,c", ",", x.most, x.want, nil)
	}
	checkSplit(t, "", ",", 0, []string{""}, nil)
	checkSplit(t, "", ",", 1, []string{""}, nil)
	checkSplit(t, ",", ",", 1, []string{"", ""}, nil)
	checkSplit(t, ",,", ",", 1, []string{"", ","}, nil)
	checkSplit(t, "aaa", "aa", 1, []string{"", "a"}, nil)
}

// P11.1: an empty by is an error, whatever the text and the number of cuts.
func TestSplitByNothing(t *testing.T) {
	for _, s := range []string{"", "a", "a,b", strings.Repeat("x", 2*api.MaxItems)} {
		for _, most := range []int{-1, 0, 1, 5, math.MinInt, math.MaxInt} {
			checkSplit(t, s, "", most, nil, api.ErrDynamic)
		}
	}
}

// P11.1: as many texts as a list may have, and one more; where there are fewer cuts, there are fewer texts.
func TestSplitLimit(t *testing.T) {
	most := slices.Repeat([]string{""}, api.MaxItems)
	commas := strings.Repeat(",", api.MaxItems-1)
	checkSplit(t, commas, ",", -1, most, nil)
	checkSplit(t, commas, ",", api.MaxItems-1, most, nil)
	checkSplit(t, commas, ",", api.MaxItems, most, nil)
	checkSplit(t, commas+",", ",", -1, nil, api.ErrLimit)
	checkSplit(t, commas+",x", ",", -1, nil, api.ErrLimit)
	checkSplit(t, commas+",", ",", api.MaxItems, nil, api.ErrLimit)
	checkSplit(t, commas+",", ",", math.MaxInt, nil, api.ErrLimit)
	checkSplit(t, commas+",", ",", api.MaxItems-1, append(slices.Clone(most[1:]), ","), nil)
	checkSplit(t, commas+",,x", ",", api.MaxItems-1, append(slices.Clone(most[1:]), ",,x"), nil)
	checkSplit(t, strings.Repeat("ab", 5000), "ab", -1, nil, api.ErrLimit)
	checkSplit(t, strings.Repeat("ab", 500), "ab", -1, most[:501], nil)
	parts := strings.Split(strings.Repeat("a,b,", api.MaxItems/2)[:2*api.MaxItems-1], ",")
	checkSplit(t, strings.Join(parts, ","), ",", -1, parts, nil)
	checkSplit(t, strings.Join(parts, ",")+",", ",", -1, nil, api.ErrLimit)
}

func plainSplit(s, by string, most int) []string {
	for i := 0; most != 0 && i+len(by) <= len(s); i++ {
		if s[i:i+len(by)] == by {
			return append([]string{s[:i]}, plainSplit(s[i+len(by):], by, most-1)...)
		}
	}
	return []string{s}
}

// P11.1: Split of all short texts, against a plain second way; joined again they are what was split.
func TestSplitAllShort(t *testing.T) {
	bys := texts("ab", 3)[1:]
	for _, s := range texts("ab", lessShort(9)) {
		for _, by := range bys {
			for most := -1; most < 4; most++ {
				want := plainSplit(s, by, most)
				checkSplit(t, s, by, most, want, nil)
				joined, err := str.Join(by, want)
				isText(t, "Join of "+s+" split by "+by, joined, err, s, nil)
			}
		}
	}
}

func checkWords(t *testing.T, s string, want ...string) {
	t.Helper()
	isList(t, "Words("+strconv.Quote(s)+")", str.Words(s), nil, want, nil)
}

// P11.1: the parts between blanks, without empty ones.
func TestWordsAnswers(t *testing.T) {
	checkWords(t, "")
	checkWords(t, " ")
	checkWords(t, " \t\n\r\v\f  ")
	checkWords(t, "a", "a")
	checkWords(t, "a b", "a", "b")
	checkWords(t, "  a  bc\t\n d ", "a", "bc", "d")
	checkWords(t, "a\tb\nc\rd\ve\ff g", "a", "b", "c", "d", "e", "f", "g")
	checkWords(t, "a,b;c-d", "a,b;c-d")
	checkWords(t, "a\u00a0b\u2003c\u0085d", "a\u00a0b\u2003c\u0085d")
	checkWords(t, "\xff \xe4\x85\xa0\n\xa0", "\xff", "\xe4\x85\xa0", "\xa0")
	checkWords(t, "\u3000 \ufffd", "\u3000", "\ufffd")
}

// P11.1: of all bytes, six are blanks.
func TestWordsBytes(t *testing.T) {
	for b := range 256 {
		x := string([]byte{byte(b)})
		if slices.Contains([]int{9, 10, 11, 12, 13, 32}, b) {
			checkWords(t, "a"+x+"b", "a", "b")
			checkWords(t, x)
			checkWords(t, x+x+"ab"+x, "ab")
			continue
		}
		checkWords(t, "a"+x+"b", "a"+x+"b")
		checkWords(t, x, x)
		checkWords(t, x+x+" "+x, x+x, x)
	}
}

func plainWords(s string) []string {
	var l []string
	word := ""
	for i := range len(s) {
		if s[i] != ' ' && (s[i] < 9 || s[i] > 13) {
			word += s[i : i+1]
			continue
		}
		if word != "" {
			l = append(l, word)
		}
		word = ""
	}
	if word != "" {
		l = append(l, word)
	}
	return l
}

// P11.1: Words of all short texts, against a plain second way.
func TestWordsAllShort(t *testing.T) {
	for _, s := range texts("a \t\xe2\x80\x83\n", lessShort(6)) {
		checkWords(t, s, plainWords(s)...)
	}
}

// P11.1: Words of a text longer than what may be made at once, as a file's may be.
func TestWordsLong(t *testing.T) {
	long := strings.Repeat("a", 3*api.MaxItems)
	checkWords(t, strings.Repeat(" ", 50000)+"b "+strings.Repeat("\n", 10000)+"c", "b", "c")
	if l := str.Words(" " + long + " b "); len(l) != 2 || l[0] != long || l[1] != "b" {
		t.Error(len(l))
	}
	words := strings.Fields(strings.Repeat("ab ", api.MaxItems))
	checkWords(t, strings.Join(words, " \n"), words...)
}

func checkJoin(t *testing.T, by string, l []string, want string, wantErr error) {
	t.Helper()
	got, err := str.Join(by, l)
	isText(t, "Join("+strconv.Quote(by)+") of "+strconv.Itoa(len(l)), got, err, want, wantErr)
}

// P11.1: Join of none, one and several.
func TestJoinAnswers(t *testing.T) {
	for _, x := range []struct {
		by   string
		l    []string
		want string
	}{
		{",", nil, ""},
		{",", []string{}, ""},
		{",", []string{""}, ""},
		{",", []string{"a"}, "a"},
		{",", []string{"a", "b", "c"}, "a,b,c"},
		{", ", []string{"a", "b"}, "a, b"},
		{",", []string{"", ""}, ","},
		{",", []string{"", "a", "", ""}, ",a,,"},
		{",", []string{"a,b", ",", "c"}, "a,b,,,c"},
		{"", []string{"a", "", "bc"}, "abc"},
		{"", nil, ""},
		{"", []string{"", ""}, ""},
		{"\xff", []string{"\u00e4", "\x00"}, "\u00e4\xff\x00"},
	} {
		checkJoin(t, x.by, x.l, x.want, nil)
	}
}

// P11.1: as many bytes as may be made, and one more, of the texts and of by.
func TestJoinLimit(t *testing.T) {
	half, ones := full()[:api.MaxItems/2], slices.Repeat([]string{"x"}, api.MaxItems)
	checkJoin(t, "", []string{half, half}, full(), nil)
	checkJoin(t, "", []string{half, half, ""}, full(), nil)
	checkJoin(t, "", []string{half, half, "x"}, "", api.ErrLimit)
	checkJoin(t, "", []string{half + "x", half}, "", api.ErrLimit)
	checkJoin(t, "x", []string{half, half}, "", api.ErrLimit)
	checkJoin(t, "x", []string{half, half[1:]}, full(), nil)
	checkJoin(t, ",", []string{full()}, full(), nil)
	checkJoin(t, ",", []string{full() + "x"}, "", api.ErrLimit)
	checkJoin(t, ",", []string{full(), ""}, "", api.ErrLimit)
	checkJoin(t, ",", []string{"", full()}, "", api.ErrLimit)
	checkJoin(t, "", ones, full(), nil)
	checkJoin(t, "", append(ones, "x"), "", api.ErrLimit)
	checkJoin(t, "x", slices.Repeat([]string{""}, api.MaxItems+1), full(), nil)
	checkJoin(t, "x", slices.Repeat([]string{""}, api.MaxItems+2), "", api.ErrLimit)
	checkJoin(t, strings.Repeat("x", 70000), []string{"a"}, "a", nil)
	checkJoin(t, strings.Repeat("x", 70000), nil, "", nil)
	checkJoin(t, strings.Repeat("x", 70000), []string{"", ""}, "", api.ErrLimit)
}

// P11.1, P0.4: a list of empty texts has no bound of its own, and a list of far too many bytes ends.
func TestJoinLong(t *testing.T) {
	checkJoin(t, "", make([]string, 100000), "", nil)
	checkJoin(t, "", slices.Repeat([]string{strings.Repeat("x", 1<<20)}, 100000), "", api.ErrLimit)
}
