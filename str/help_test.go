package str_test

import (
	"slices"
	"strings"
	"testing"

	"smithy/api"
)

// texts is every text of the letters with at most so many bytes.
func texts(letters string, most int) []string {
	all := []string{""}
	for from := 0; most > 0; most-- {
		to := len(all)
		for _, head := range all[from:to] {
			for i := range len(letters) {
				all = append(all, head+letters[i:i+1])
			}
		}
		from = to
	}
	return all
}

// lessShort is one less where seconds count.
func lessShort(n int) int {
	if testing.Short() {
		return n - 1
	}
	return n
}

// each is every byte once.
func each() string {
	var l []byte
	for b := range 256 {
		l = append(l, byte(b))
	}
	return string(l)
}

// spoil writes over a list, its spare room, too.
func spoil(l []string) {
	for i := range l[:cap(l)] {
		l[:cap(l)][i] = "spoilt"
	}
}

// full is a text of as many bytes as may be made at once.
func full() string { return strings.Repeat("x", api.MaxItems) }

// isText holds an answer against the one that it has to be; beside an error there is none.
func isText(t *testing.T, what, got string, err error, want string, wantErr error) {
	t.Helper()
	if got != want || err != wantErr {
		t.Errorf("%.90s: %.60q (%d bytes), %v; want %.60q (%d bytes), %v", what, got, len(got), err, want, len(want), wantErr)
	}
}

// isList does so with a list.
func isList(t *testing.T, what string, got []string, err error, want []string, wantErr error) {
	t.Helper()
	if !slices.Equal(got, want) || err != wantErr {
		t.Errorf("%.90s: %.90q (%d texts), %v; want %.90q (%d texts), %v", what, got, len(got), err, want, len(want), wantErr)
	}
}
