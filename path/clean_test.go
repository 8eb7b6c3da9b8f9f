package path_test

import (
	"strings"
	"testing"

	"smithy/api"
	"smithy/path"
)

const partBytes = "!#%+,-.0123456789=@ABCDEFGHIJKLMNOPQRSTUVWXYZ_abcdefghijklmnopqrstuvwxyz~"

// texts is every text of the letters with at most so many bytes.
func texts(letters string, most int) []string {
	all := []string{""}
	for from := 0; most > 0; most-- {
		to := len(all)
		for _, head := range all[from:to] {
			for i := range len(letters) {
				all = append(all, head+letters[i:i+1])
			}
		}
		from = to
	}
	return all
}

func plainPart(s string) bool {
	return s != "" && s != "." && s != ".." && strings.Trim(s, partBytes) == "" && !strings.ContainsAny(s, "*")
}

func plainValid(p string) bool {
	for _, part := range strings.Split(p, "/") {
		if !plainPart(part) {
			return false
		}
	}
	return len(p) <= api.MaxPath
}

func plainClean(p string) (string, bool) {
	var kept []string
	for _, part := range strings.Split(p, "/") {
		if part == "" || part == "." {
			continue
		}
		if part != ".." {
			if !plainPart(part) {
				return "", false
			}
			kept = append(kept, part)
			continue
		}
		if len(kept) == 0 {
			return "", false
		}
		kept = kept[:len(kept)-1]
	}
	clean := strings.Join(kept, "/")
	if len(clean) > api.MaxPath {
		return "", false
	}
	return clean, true
}

func checkClean(t *testing.T, p, want string, wantErr error) {
	t.Helper()
	if got, err := path.Clean(p); got != want || err != wantErr {
		t.Errorf("Clean(%.60q): %q, %v; want %q, %v", p, got, err, want, wantErr)
	}
}

// P1.1: Clean at ordinary inputs and at the edges.
func TestCleanAnswers(t *testing.T) {
	for _, x := range []struct{ p, want string }{
		{"a//b/../c/.", "a/c"},
		{"a", "a"},
		{"a/b/c", "a/b/c"},
		{"", ""},
		{".", ""},
		{"/", ""},
		{"///", ""},
		{"././/.", ""},
		{"/a/", "a"},
		{"./a/./b/.", "a/b"},
		{"a/..", ""},
		{"a/../", ""},
		{"a/b/../..", ""},
		{"a/b/../../c", "c"},
		{"a/../b/../c", "c"},
		{"ab/cd/../ef", "ab/ef"},
		{"a//../b", "b"},
		{"a/./../b", "b"},
		{"...", "..."},
		{".a/..b/a.", ".a/..b/a."},
		{"a/.../..", "a"},
		{partBytes, partBytes},
	} {
		checkClean(t, x.p, x.want, nil)
	}
}

// P1.1: Clean at wrong inputs.
func TestCleanErrors(t *testing.T) {
	for _, p := range []string{
		"..", "../a", "/..", "./..", "a/../..", "a/../../b", "a/b/../../..",
		"a b", "a/b*", "*", "**", "a/b?", "a\\b", "a\x00", "a\n", "\u00e4", "\xff", "a/\"/b", "a:b", "a/b$",
		"a b/..", "*/..", "a/\x80/../..",
	} {
		checkClean(t, p, "", api.ErrPath)
	}
}

// P1.1: the limit holds for the path that comes out, not for what goes in.
func TestCleanLimit(t *testing.T) {
	full := strings.Repeat("a", api.MaxPath)
	checkClean(t, full, full, nil)
	checkClean(t, full+"a", "", api.ErrPath)
	checkClean(t, "//"+full+"/./", full, nil)
	parts := strings.Repeat("a/", 99) + "aa"
	checkClean(t, parts, parts, nil)
	checkClean(t, parts+"a", "", api.ErrPath)
	checkClean(t, parts+"/..", strings.Repeat("a/", 98)+"a", nil)
	checkClean(t, full+"a/../b", "b", nil)
	checkClean(t, full+"/b/..", full, nil)
	checkClean(t, full+"/b", "", api.ErrPath)
	checkClean(t, strings.Repeat("a/", 5000)+strings.Repeat("../", 4999), "a", nil)
	checkClean(t, strings.Repeat("./", 5000)+"a", "a", nil)
}

// P1.1, P1.2: which bytes a part may have; `/` parts, and `*` is for patterns alone.
func TestBytes(t *testing.T) {
	for b := range 256 {
		p := "x" + string([]byte{byte(b)}) + "y"
		isPath := b == '/' || strings.IndexByte(partBytes, byte(b)) >= 0
		clean, cleanErr := "", api.ErrPath
		if isPath {
			clean, cleanErr = p, nil
		}
		checkClean(t, p, clean, cleanErr)
		if got := path.Valid(p); got != isPath {
			t.Errorf("Valid(%q): %v", p, got)
		}
		var matchErr error
		if !isPath && b != '*' {
			matchErr = api.ErrPath
		}
		if got, err := path.Match(p, p); got != isPath || err != matchErr {
			t.Errorf("Match(%q, the same): %v, %v", p, got, err)
		}
	}
}

// P1.1: Clean, Valid, Dir, Base at all short texts.
func TestCleanAllShort(t *testing.T) {
	for _, p := range texts("ab./*", 7) {
		want, ok := plainClean(p)
		got, err := path.Clean(p)
		if got != want || (err == nil) != ok || (err != nil && err != api.ErrPath) {
			t.Fatalf("Clean(%q): %q, %v; want %q, %v", p, got, err, want, ok)
		}
		if path.Valid(p) != plainValid(p) {
			t.Fatalf("Valid(%q): %v", p, path.Valid(p))
		}
		if (p == want && ok && p != "") != path.Valid(p) {
			t.Fatalf("Valid(%q): %v, but Clean %q, %v", p, path.Valid(p), got, err)
		}
	}
}

func TestJoin(t *testing.T) {
	for _, x := range []struct {
		l    []string
		want string
		err  error
	}{
		{nil, "", nil},
		{[]string{}, "", nil},
		{[]string{""}, "", nil},
		{[]string{"", "", ""}, "", nil},
		{[]string{"a"}, "a", nil},
		{[]string{"a", "b"}, "a/b", nil},
		{[]string{"a/", "/b"}, "a/b", nil},
		{[]string{"a", "", "../b", "/c"}, "b/c", nil},
		{[]string{"a/b", "..", "c"}, "a/c", nil},
		{[]string{"", "a"}, "a", nil},
		{[]string{".", "."}, "", nil},
		{[]string{"a", ".."}, "", nil},
		{[]string{"a", "../.."}, "", api.ErrPath},
		{[]string{"..", "a"}, "", api.ErrPath},
		{[]string{"a", "b c"}, "", api.ErrPath},
		{[]string{"a", "*"}, "", api.ErrPath},
		{[]string{strings.Repeat("a", 100), strings.Repeat("b", 99)}, strings.Repeat("a", 100) + "/" + strings.Repeat("b", 99), nil},
		{[]string{strings.Repeat("a", 100), strings.Repeat("b", 100)}, "", api.ErrPath},
	} {
		if got, err := path.Join(x.l...); got != x.want || err != x.err {
			t.Errorf("Join(%.60q): %q, %v", x.l, got, err)
		}
	}
}

func TestValid(t *testing.T) {
	for _, p := range []string{"a", "a/b", "...", ".a", "a.", "a/...", "..a/b..", partBytes, strings.Repeat("a", api.MaxPath), strings.Repeat("a/", 99) + "aa"} {
		if !path.Valid(p) {
			t.Errorf("Valid(%q): false", p)
		}
	}
	for _, p := range []string{"", ".", "..", "/", "a/", "/a", "a//b", "a/.", "./a", "a/../b", "a b", "a*", "*", "\u00e4", "a\x00", strings.Repeat("a", api.MaxPath+1), strings.Repeat("a/", 100) + "a"} {
		if path.Valid(p) {
			t.Errorf("Valid(%q): true", p)
		}
	}
}

// P1.1: Dir and Base take any text.
func TestDirBase(t *testing.T) {
	for _, x := range []struct{ p, dir, base string }{
		{"a/b/c", "a/b", "c"},
		{"a/b", "a", "b"},
		{"a", "", "a"},
		{"", "", ""},
		{"/", "", ""},
		{"//", "/", ""},
		{"/a", "", "a"},
		{"a/", "a", ""},
		{"a//b", "a/", "b"},
		{"..", "", ".."},
		{"a/..", "a", ".."},
		{"a b/\x00*", "a b", "\x00*"},
		{strings.Repeat("a/", 300) + "b", strings.Repeat("a/", 299) + "a", "b"},
	} {
		if dir, base := path.Dir(x.p), path.Base(x.p); dir != x.dir || base != x.base {
			t.Errorf("%.60q: Dir %q, Base %q", x.p, dir, base)
		}
	}
}

func TestUnder(t *testing.T) {
	for _, x := range []struct {
		p, dir string
		want   bool
	}{
		{"a/b", "a", true},
		{"a/b/c", "a", true},
		{"a/b/c", "a/b", true},
		{"a/b/c", "a/b/c", false},
		{"a", "a", false},
		{"ab", "a", false},
		{"ab/c", "a", false},
		{"a", "a/b", false},
		{"b/a", "a", false},
		{"a", "", true},
		{"a/b", "", true},
		{"", "", false},
		{"", "a", false},
		{"/", "", true},
		{"a/", "a", true},
		{"a//", "a/", true},
		{"a/b", "a/", false},
		{"a b/c", "a b", true},
	} {
		if got := path.Under(x.p, x.dir); got != x.want {
			t.Errorf("Under(%q, %q): %v", x.p, x.dir, got)
		}
	}
}
