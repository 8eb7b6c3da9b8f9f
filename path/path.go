// Package path: paths and patterns: see ../shared/doc/01-path.md.
package path

import (
	"bytes"
	"slices"
	"strings"

	"smithy/api"
)

// Clean is p without empty parts and `.`, and with each `..` carried out: a path, or the root.
// A part that is none is a fault even if a later `..` would take it away.
func Clean(p string) (string, error) {
	var clean []byte
	for part := range strings.SplitSeq(p, "/") {
		switch {
		case part == "" || part == ".":
		case part == "..":
			if len(clean) == 0 {
				return "", api.ErrPath
			}
			clean = clean[:max(0, bytes.LastIndexByte(clean, '/'))]
		case isPart(part):
			if len(clean) > 0 {
				clean = append(clean, '/')
			}
			clean = append(clean, part...)
		default:
			return "", api.ErrPath
		}
	}
	if len(clean) > api.MaxPath {
		return "", api.ErrPath
	}
	return string(clean), nil
}

// Join is Clean of the texts of l with `/` between.
func Join(l ...string) (string, error) {
	return Clean(strings.Join(l, "/"))
}

// Valid tells whether p is a path.
func Valid(p string) bool {
	_, ok := split(p, isPart)
	return ok
}

// Dir is what stands ahead of the last `/` of any text; the root, if there is none.
func Dir(p string) string {
	return p[:max(0, strings.LastIndexByte(p, '/'))]
}

// Base is what stands behind the last `/` of any text.
func Base(p string) string {
	return p[strings.LastIndexByte(p, '/')+1:]
}

// Under tells whether p lies under dir; nothing lies under itself, the root neither.
func Under(p, dir string) bool {
	if dir == "" {
		return p != ""
	}
	rest, ok := strings.CutPrefix(p, dir)
	return ok && strings.HasPrefix(rest, "/")
}

// Match tells whether p is what the pattern says; what is no path never is.
func Match(pattern, p string) (bool, error) {
	want, ok := split(pattern, isPatternPart)
	if !ok {
		return false, api.ErrPath
	}
	have, ok := split(p, isPart)
	return ok && matchParts(want, have), nil
}

// Glob is those of the paths that match one of the patterns and none of but, each once, by bytes.
func Glob(patterns, but []string, paths []string) ([]string, error) {
	wanted, err := splitPatterns(patterns, 0)
	if err != nil {
		return nil, err
	}
	unwanted, err := splitPatterns(but, len(patterns))
	if err != nil {
		return nil, err
	}
	sorted := slices.Clone(paths)
	slices.Sort(sorted)
	var found []string
	for _, p := range slices.Compact(sorted) {
		have, ok := split(p, isPart)
		if ok && matchAny(wanted, have) && !matchAny(unwanted, have) {
			found = append(found, p)
		}
	}
	return found, nil
}

// splitPatterns is the parts of each pattern; the error of the first that is none has its place, counted from first on.
func splitPatterns(patterns []string, first int) ([][]string, error) {
	var all [][]string
	for i, pattern := range patterns {
		parts, ok := split(pattern, isPatternPart)
		if !ok {
			return nil, &api.At{Pos: first + i, Err: api.ErrPath}
		}
		all = append(all, parts)
	}
	return all, nil
}

// split is the parts of a text, if it has at most MaxPath bytes and each of them is allowed.
func split(text string, allowed func(part string) bool) ([]string, bool) {
	if len(text) > api.MaxPath {
		return nil, false
	}
	parts := strings.Split(text, "/")
	for _, part := range parts {
		if !allowed(part) {
			return nil, false
		}
	}
	return parts, true
}

func isPart(s string) bool {
	return !strings.Contains(s, "*") && isPatternPart(s)
}

func isPatternPart(s string) bool {
	if s == "" || s == "." || s == ".." {
		return false
	}
	for i := range len(s) {
		if s[i] != '*' && !isPartByte(s[i]) {
			return false
		}
	}
	return s == "**" || !strings.Contains(s, "**")
}

func isPartByte(b byte) bool {
	switch {
	case '0' <= b && b <= '9', 'A' <= b && b <= 'Z', 'a' <= b && b <= 'z':
		return true
	}
	return strings.IndexByte("!#%+,-.=@_~", b) >= 0
}

func matchAny(patterns [][]string, have []string) bool {
	return slices.ContainsFunc(patterns, func(want []string) bool { return matchParts(want, have) })
}

func matchParts(want, have []string) bool {
	isStar := func(i int) bool { return want[i] == "**" }
	fits := func(i, j int) bool { return matchPart(want[i], have[j]) }
	return matchRow(len(want), len(have), isStar, fits)
}

func matchPart(want, have string) bool {
	isStar := func(i int) bool { return want[i] == '*' }
	fits := func(i, j int) bool { return want[i] == have[j] }
	return matchRow(len(want), len(have), isStar, fits)
}

// matchRow tells whether a row of wants things fits one of haves things, where a star fits any number of them.
// Only the last star is ever tried anew: what lies ahead of it was met as early as can be, and a later meeting
// would leave less for what follows. So the steps are no more than wants times haves, however many the stars.
func matchRow(wants, haves int, isStar func(i int) bool, fits func(i, j int) bool) bool {
	i, j := 0, 0
	behind, taken := -1, 0 // what follows the last star, and where what that star stands for ends
	for j < haves {
		switch {
		case i < wants && isStar(i):
			i++
			behind, taken = i, j
		case i < wants && fits(i, j):
			i++
			j++
		case behind >= 0:
			taken++
			i, j = behind, taken
		default:
			return false
		}
	}
	for i < wants && isStar(i) {
		i++
	}
	return i == wants
}
