package disk_test

import (
	"errors"
	"slices"
	"sort"
	"testing"

	"smithy/api"
	"smithy/disk"
)

// plainFile is a file's texts one behind the other, the first as it was synced, each a list of none or one; and
// what was laid behind to come to each.
type plainFile struct {
	was  [][]string
	laid []string
}

// plainDisk keeps all that ever came to pass since what was synced.
type plainDisk map[string]*plainFile

func (d plainDisk) now(p string) []string {
	if d[p] == nil {
		return nil
	}
	return d[p].was[len(d[p].was)-1]
}

func (d plainDisk) change(p string, now []string, laid string) {
	if d[p] == nil {
		d[p] = &plainFile{was: [][]string{nil}, laid: []string{""}}
	}
	d[p].was = append(d[p].was, now)
	d[p].laid = append(d[p].laid, laid)
}

func (d plainDisk) do(kind int, p, text string) {
	now := d.now(p)
	switch kind {
	case 0:
		d.change(p, []string{text}, "")
	case 1:
		old := ""
		if now != nil {
			old = now[0]
		}
		d.change(p, []string{old + text}, text)
	case 2:
		if now != nil {
			d.change(p, nil, "")
		}
	case 3:
		d.synced(p, now)
	}
}

func (d plainDisk) synced(p string, now []string) {
	d[p] = &plainFile{was: [][]string{now}, laid: []string{""}}
}

func (d plainDisk) rise(keep, cut int) {
	var changed []string
	for p, f := range d {
		if len(f.was) > 1 {
			changed = append(changed, p)
		}
	}
	sort.Strings(changed)
	for i, p := range changed {
		stand := 0
		if keep >= 0 && i < 31 {
			stand = keep >> (2 * i) % 4
		}
		d.synced(p, d[p].left(stand, cut))
	}
}

func (f *plainFile) left(stand, cut int) []string {
	if stand >= len(f.was)-1 {
		return f.was[len(f.was)-1]
	}
	laid := f.laid[stand+1]
	cut = max(0, min(cut, len(laid)-1))
	if cut == 0 {
		return f.was[stand]
	}
	next := f.was[stand+1][0]
	return []string{next[:len(next)-len(laid)+cut]}
}

func (d plainDisk) dump() []api.File {
	var l []api.File
	for p := range d {
		if now := d.now(p); now != nil {
			l = append(l, file(p, now[0]))
		}
	}
	slices.SortFunc(l, func(a, b api.File) int {
		if a.Path < b.Path {
			return -1
		}
		return 1
	})
	return l
}

func done(d *disk.Disk, kind int, p, text string) error {
	switch kind {
	case 0:
		return d.Write(p, text)
	case 1:
		return d.Append(p, text)
	case 2:
		return d.Remove(p)
	}
	return d.Sync(p)
}

// TestAllShort holds P3.1 and P3.3 at all rows of up to 4 changes and syncs of two files, with all falls behind each.
func TestAllShort(t *testing.T) {
	type step struct {
		kind    int
		p, text string
	}
	steps := []step{{0, "a", "W"}, {1, "a", "xyz"}, {1, "a", "q"}, {2, "a", ""}, {3, "a", ""}, {1, "b", "12"}, {2, "b", ""}}
	rows := [][]step{nil}
	for from := 0; len(rows[len(rows)-1]) < 4; {
		to := len(rows)
		for _, row := range rows[from:to] {
			for _, s := range steps {
				rows = append(rows, append(slices.Clone(row), s))
			}
		}
		from = to
	}
	for _, row := range rows {
		d := made(t, file("b", "B"))
		for _, s := range row {
			ok(t, done(d, s.kind, s.p, s.text))
		}
		d.Arm(1)
		d.List()
		for keep := -1; keep < 16; keep++ {
			for cut := -1; cut < 4; cut++ {
				plain := plainDisk{}
				plain.synced("b", []string{"B"})
				for _, s := range row {
					plain.do(s.kind, s.p, s.text)
				}
				e := d.Clone()
				e.Rise(keep, cut)
				plain.rise(keep, cut)
				if got := e.Dump(); !slices.Equal(got, plain.dump()) {
					t.Fatalf("%v, Rise(%d, %d): %q; want %q", row, keep, cut, got, plain.dump())
				}
			}
		}
	}
}

// next is a number from 0 to n-1, the same ones in the same order every time.
func next(state *uint64, n int) int {
	*state = *state*6364136223846793005 + 1442695040888963407
	return int(*state >> 33 % uint64(n))
}

// TestLong holds P3.1 to P3.3 at long rows of calls, with many falls in them.
func TestLong(t *testing.T) {
	paths := []string{"a", "a/b", "a!b", "B", "c", "d/e/f", "~"}
	texts := []string{"", "1", "23", "456", "7890ab"}
	for seed := range 30 {
		state := uint64(seed)
		d, plain, ops := made(t), plainDisk{}, 0
		for range 200 {
			calls := 1 + next(&state, 20)
			d.Arm(calls)
			for i := 1; i <= calls; i++ {
				kind, p, text := next(&state, 4), paths[next(&state, len(paths))], texts[next(&state, len(texts))]
				err := done(d, kind, p, text)
				ops++
				if d.Ops() != ops || d.Down() != (i == calls) || d.Down() != errors.Is(err, api.ErrDown) {
					t.Fatal(seed, err, d.Ops(), ops, d.Down())
				}
				if i < calls {
					ok(t, err)
					plain.do(kind, p, text)
				}
				if got := d.Dump(); !slices.Equal(got, plain.dump()) {
					t.Fatalf("%d: %q; want %q", seed, got, plain.dump())
				}
			}
			keep, cut := next(&state, 1<<14), next(&state, 8)-1
			d.Rise(keep, cut)
			plain.rise(keep, cut)
			if got := d.Dump(); !slices.Equal(got, plain.dump()) {
				t.Fatalf("%d, Rise(%d, %d): %q; want %q", seed, keep, cut, got, plain.dump())
			}
		}
	}
}
