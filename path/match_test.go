package path_test

import (
	"errors"
	"slices"
	"strings"
	"testing"

	"smithy/api"
	"smithy/path"
)

func plainPattern(p string) bool {
	for _, part := range strings.Split(p, "/") {
		bare := strings.ReplaceAll(part, "*", "x")
		if part == "." || part == ".." || !plainPart(bare) {
			return false
		}
		if part != "**" && strings.Contains(part, "**") {
			return false
		}
	}
	return len(p) <= api.MaxPath
}

// plainMatchPart takes each `*` at every length.
func plainMatchPart(want, have string) bool {
	if want == "" {
		return have == ""
	}
	if want[0] != '*' {
		return have != "" && have[0] == want[0] && plainMatchPart(want[1:], have[1:])
	}
	for n := range len(have) + 1 {
		if plainMatchPart(want[1:], have[n:]) {
			return true
		}
	}
	return false
}

// plainMatchParts takes each `**` at every length.
func plainMatchParts(want, have []string) bool {
	if len(want) == 0 {
		return len(have) == 0
	}
	if want[0] != "**" {
		return len(have) > 0 && plainMatchPart(want[0], have[0]) && plainMatchParts(want[1:], have[1:])
	}
	for n := range len(have) + 1 {
		if plainMatchParts(want[1:], have[n:]) {
			return true
		}
	}
	return false
}

// P1.2: Match at ordinary inputs and at the edges.
func TestMatchAnswers(t *testing.T) {
	for _, x := range []struct {
		pattern, p string
		want       bool
	}{
		{"a/**/*.txt", "a/x/y/z.txt", true},
		{"a/**/*.txt", "a/b.txt", true},
		{"a/**/*.txt", "a/.txt", true},
		{"a/**/*.txt", "b.txt", false},
		{"a/**/*.txt", "a/x/y/z.tx", false},
		{"a", "a", true},
		{"a", "b", false},
		{"a", "aa", false},
		{"aa", "a", false},
		{"a", "a/a", false},
		{"a/a", "a", false},
		{"a/b", "a/b", true},
		{"*", "a", true},
		{"*", "a/b", false},
		{"*", "...", true},
		{"a*", "a", true},
		{"*a", "a", true},
		{"*a*", "a", true},
		{"a*a", "a", false},
		{"a*a", "aa", true},
		{"a*a", "aba", true},
		{"a*b*c", "abbc", true},
		{"a*b*c", "abcb", false},
		{"*ab", "aab", true},
		{"*/*", "a", false},
		{"*/*", "a/b", true},
		{"*.*", "a.b.c", true},
		{"*.*.*", "a.b", false},
		{"**", "a", true},
		{"**", "a/b/c", true},
		{"**/a", "a", true},
		{"a/**", "a", true},
		{"a/**", "a/b/c", true},
		{"a/**", "ab", false},
		{"a/**/b", "a/b", true},
		{"a/**/b", "a/x/b", true},
		{"a/**/b", "a/x/y/b", true},
		{"a/**/b", "a/b/x", false},
		{"**/**", "a", true},
		{"**/a/**", "a", true},
		{"**/*", "a/b", true},
		{"**/*/**/*", "a", false},
		{"**/*/**/*", "a/b", true},
		{"**/a/b", "a/a/b", true},
		{"**/a/b/**/a/c", "a/b/a/b/a/c", true},
		{"**/a*/b", "a/ab/a/b", true},
	} {
		if got, err := path.Match(x.pattern, x.p); got != x.want || err != nil {
			t.Errorf("Match(%q, %q): %v, %v", x.pattern, x.p, got, err)
		}
	}
}

// P1.2: what is no path matches nothing.
func TestMatchNoPath(t *testing.T) {
	for _, p := range []string{"", ".", "..", "/", "a/", "/a", "a//b", "a/..", "a b", "*", "**", "a*", "\u00e4", strings.Repeat("a", api.MaxPath+1)} {
		for _, pattern := range []string{"**", "*", "*/*", "**/*", "a*", "a/**"} {
			if got, err := path.Match(pattern, p); got || err != nil {
				t.Errorf("Match(%q, %.60q): %v, %v", pattern, p, got, err)
			}
		}
	}
}

// P1.2: what is no pattern, whether p is a path or none.
func TestMatchNoPattern(t *testing.T) {
	for _, pattern := range []string{
		"", "/", "a/", "/a", "a//b", "**/", "/**", "a/**//b", ".", "..", "a/.", "./a", "a/../b", "**/..",
		"***", "****", "a**", "**a", "a**b", "a/***", "**/**b", "*a**", "**.",
		"a b", "a?", "[a]", "a\x00", "\u00e4", "a\\b", "{a,b}", "* ",
		strings.Repeat("a", api.MaxPath+1), strings.Repeat("*/", 100) + "*",
	} {
		for _, p := range []string{"a", pattern, "", ".."} {
			if got, err := path.Match(pattern, p); got || err != api.ErrPath {
				t.Errorf("Match(%.60q, %.60q): %v, %v", pattern, p, got, err)
			}
		}
	}
}

// P1.2: a pattern and a path of just MaxPath bytes; their answer must not take ages.
func TestMatchLimit(t *testing.T) {
	full := strings.Repeat("a", api.MaxPath)
	deep := strings.Repeat("a/", 99) + "ab"
	for _, x := range []struct {
		pattern, p string
		want       bool
	}{
		{full, full, true},
		{"*", full, true},
		{"**", deep, true},
		{strings.Repeat("*a", api.MaxPath/2), full, true},
		{strings.Repeat("*a", api.MaxPath/2-1) + "*b", full, false},
		{strings.Repeat("a*", api.MaxPath/2), full[1:] + "b", true},
		{strings.Repeat("**/", 66) + "*b", deep, true},
		{strings.Repeat("**/", 66) + "*c", deep, false},
		{strings.Repeat("**/a/", 39) + "**/*c", deep, false},
		{strings.Repeat("*/", 99) + "*b", deep, true},
		{strings.Repeat("*/", 99) + "*a", deep, false},
	} {
		if got, err := path.Match(x.pattern, x.p); got != x.want || err != nil {
			t.Errorf("Match(%q, %q): %v, %v", x.pattern, x.p, got, err)
		}
	}
}

// P1.2: Match at all short patterns and paths.
func TestMatchAllShort(t *testing.T) {
	var paths []string
	for _, p := range texts("ab/", 5) {
		if plainValid(p) {
			paths = append(paths, p)
		}
	}
	for _, pattern := range texts("ab*/", 6) {
		ok := plainPattern(pattern)
		want := strings.Split(pattern, "/")
		for _, p := range paths {
			is, err := path.Match(pattern, p)
			if !ok && (is || err != api.ErrPath) {
				t.Fatalf("Match(%q, %q): %v, %v; it is no pattern", pattern, p, is, err)
			}
			if ok && (err != nil || is != plainMatchParts(want, strings.Split(p, "/"))) {
				t.Fatalf("Match(%q, %q): %v, %v", pattern, p, is, err)
			}
		}
	}
	for _, pattern := range texts("a.*/", 6) {
		if _, err := path.Match(pattern, "a"); (err == nil) != plainPattern(pattern) {
			t.Fatalf("Match(%q, a): %v", pattern, err)
		}
	}
}

// P1.2: Glob answers each path once, by bytes.
func TestGlobAnswers(t *testing.T) {
	paths := []string{"b.txt", "a.txt", "c/d.txt", "a.txt", "e.go", "no path", "", "a//b", "B.txt", "a/b", "a!b", "a", "a.txt"}
	for i, x := range []struct {
		patterns, but, want []string
	}{
		{[]string{"*.txt", "**"}, []string{"c/*", "e*"}, []string{"B.txt", "a", "a!b", "a.txt", "a/b", "b.txt"}},
		{[]string{"**"}, nil, []string{"B.txt", "a", "a!b", "a.txt", "a/b", "b.txt", "c/d.txt", "e.go"}},
		{[]string{"b.txt", "a.txt"}, nil, []string{"a.txt", "b.txt"}},
		{[]string{"*.txt", "a*", "a.txt"}, nil, []string{"B.txt", "a", "a!b", "a.txt", "b.txt"}},
		{[]string{"*.txt"}, []string{"x", "b*"}, []string{"B.txt", "a.txt"}},
		{[]string{"**"}, []string{"**"}, nil},
		{[]string{"x"}, nil, nil},
		{nil, nil, nil},
		{nil, []string{"a"}, nil},
		{[]string{}, []string{}, nil},
	} {
		if got, err := path.Glob(x.patterns, x.but, paths); !slices.Equal(got, x.want) || err != nil {
			t.Errorf("%d: %q, %v", i, got, err)
		}
	}
	if got, err := path.Glob([]string{"**"}, nil, nil); len(got) > 0 || err != nil {
		t.Errorf("no paths: %q, %v", got, err)
	}
}

// P1.2: which error of Glob comes first, and its place.
func TestGlobErrors(t *testing.T) {
	for i, x := range []struct {
		patterns, but []string
		pos           int
	}{
		{[]string{""}, nil, 0},
		{[]string{"a", "b**"}, nil, 1},
		{[]string{"a", "..", "b**"}, nil, 1},
		{[]string{"a", "b", "/"}, []string{"", "a"}, 2},
		{nil, []string{"***"}, 0},
		{nil, []string{"a", "a b"}, 1},
		{[]string{"a", "c"}, []string{"b", "**b", ""}, 3},
		{[]string{"a", "c"}, []string{strings.Repeat("a", api.MaxPath+1)}, 2},
	} {
		for _, paths := range [][]string{nil, {"a"}, {"no path"}} {
			got, err := path.Glob(x.patterns, x.but, paths)
			var at *api.At
			if len(got) > 0 || !errors.Is(err, api.ErrPath) || !errors.As(err, &at) {
				t.Fatalf("%d: %q, %v", i, got, err)
			}
			if at.Pos != x.pos || at.Err != api.ErrPath {
				t.Errorf("%d: %v", i, err)
			}
		}
	}
}

// P1.2: Glob leaves alone what it is given, also what lies behind its length, and hands out new memory.
func TestGlobMemory(t *testing.T) {
	room := []string{"c", "b", "b", "a", "behind", "too"}
	before := slices.Clone(room)
	patterns, but := []string{"*", "**", "spare"}[:2], []string{"c", "spare"}[:1]
	first, err := path.Glob(patterns, but, room[:4])
	if !slices.Equal(first, []string{"a", "b"}) || err != nil {
		t.Fatal(first, err)
	}
	second, _ := path.Glob(patterns, but, room[:4])
	full := first[:cap(first)]
	for i := range full {
		full[i] = "written"
	}
	if !slices.Equal(room, before) || !slices.Equal(second, []string{"a", "b"}) {
		t.Error(room, second)
	}
	if patterns[:3][2] != "spare" || but[:2][1] != "spare" || patterns[0] != "*" || but[0] != "c" {
		t.Error(patterns, but)
	}
}
