package str

import (
	"strings"

	"smithy/api"
)

// Strip is s without the bytes at its left and its right that are among these; where these are none, without the blanks there.
func Strip(s, bytes string, left, right bool) string {
	if bytes == "" {
		bytes = blanks
	}
	// The library's way goes by runes.
	var among [256]bool
	for i := range len(bytes) {
		among[bytes[i]] = true
	}
	for left && s != "" && among[s[0]] {
		s = s[1:]
	}
	for right && s != "" && among[s[len(s)-1]] {
		s = s[:len(s)-1]
	}
	return s
}

// Upper is s with A to Z in the place of a to z.
func Upper(s string) string { return moved(s, 'a', 'z', 'A') }

// Lower is s with a to z in the place of A to Z.
func Lower(s string) string { return moved(s, 'A', 'Z', 'a') }

// moved is s with the bytes from first to last moved so that first becomes to.
func moved(s string, first, last, to byte) string {
	l := []byte(s)
	for i, b := range l {
		if first <= b && b <= last {
			l[i] = b - first + to
		}
	}
	return string(l)
}

// Repeat is s so often; below 1: nothing.
func Repeat(s string, n int) (string, error) {
	if s == "" || n < 1 {
		return "", nil
	}
	// A product might go beyond an int.
	if n > api.MaxItems/len(s) {
		return "", api.ErrLimit
	}
	return strings.Repeat(s, n), nil
}

// IsDigits tells whether s is digits, one at least.
func IsDigits(s string) bool {
	for i := range len(s) {
		if s[i] < '0' || s[i] > '9' {
			return false
		}
	}
	return s != ""
}

// Cut is the bounds, from and to, of a slice of n: without has from the beginning on, without until to the end.
func Cut(n, from, to int, has, until bool) (int, int) {
	n = max(n, 0)
	first, end := 0, n
	if has {
		first = bound(n, from)
	}
	if until {
		end = bound(n, to)
	}
	return first, max(first, end)
}

// bound is the place i of n: one below 0 counts from the end.
func bound(n, i int) int {
	if i < 0 {
		i += n
	}
	return min(max(i, 0), n)
}
