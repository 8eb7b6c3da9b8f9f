package disk_test

import (
	"testing"

	"smithy/api"
	"smithy/disk"
)

// downWith is a disk of these files that is down behind what was done.
func downWith(t *testing.T, files []api.File, do func(d *disk.Disk)) *disk.Disk {
	t.Helper()
	d := made(t, files...)
	do(d)
	d.Arm(1)
	_, err := d.List()
	is(t, err, api.ErrDown)
	return d
}

// P3.3: the chapter's example.
func TestRiseExample(t *testing.T) {
	d := made(t)
	ok(t, d.Write("a", "x"), d.Sync("a"), d.Append("a", "yz"))
	d.Arm(1)
	is(t, d.Sync("a"), api.ErrDown)
	has(t, d, file("a", "xyz"))
	d.Rise(0, 1)
	has(t, d, file("a", "xy"))
}

// P3.3: Rise of a disk that is up is nothing: no change is undone or synced, and what is armed stays so.
func TestRiseUp(t *testing.T) {
	d := made(t, file("a", "A"))
	ok(t, d.Append("a", "1"), d.Write("b", "B"))
	d.Rise(0, 0)
	has(t, d, file("a", "A1"), file("b", "B"))
	d.Arm(2)
	d.Rise(3, 3)
	ok(t, d.Sync("none"))
	is(t, d.Sync("none"), api.ErrDown)
	d.Rise(0, 0)
	has(t, d, file("a", "A"))
}

// P3.3: of one file: how many changes stand, and what of the one behind.
func TestRiseOne(t *testing.T) {
	d := downWith(t, []api.File{file("a", "A")}, func(d *disk.Disk) {
		ok(t, d.Append("a", "123"), d.Write("a", "W"), d.Append("a", "45"), d.Append("a", "678"), d.Append("a", "9"))
	})
	for _, x := range []struct {
		keep, cut int
		want      string
	}{
		{0, 0, "A"}, {0, 1, "A1"}, {0, 2, "A12"}, {0, 3, "A12"}, {0, 1 << 40, "A12"}, {0, -1, "A"}, {0, -1 << 63, "A"},
		{1, 0, "A123"}, {1, 1, "A123"}, {1, 9, "A123"},
		{2, 0, "W"}, {2, 1, "W4"}, {2, 2, "W4"}, {2, -1, "W"},
		{3, 0, "W45"}, {3, 1, "W456"}, {3, 2, "W4567"}, {3, 3, "W4567"}, {3, -5, "W45"},
		{-1, 0, "A"}, {-1, 1, "A1"}, {-3, 0, "A"}, {-1 << 63, 2, "A12"},
		{4, 0, "A"}, {5, 0, "A123"}, {6, 1, "W4"}, {7, 1, "W456"}, {4*255 + 2, 0, "W"}, {1<<63 - 1, 1, "W456"},
	} {
		e := d.Clone()
		e.Rise(x.keep, x.cut)
		has(t, e, file("a", x.want))
		if e.Down() || e.Ops() != 6 {
			t.Error(x, e.Down(), e.Ops())
		}
		fall(e)
		has(t, e, file("a", x.want))
	}
}

// P3.3: more are kept than there are changes: all of them stand, and nothing is behind.
func TestRiseAll(t *testing.T) {
	for _, x := range []struct {
		texts []string
		keep  int
		cut   int
		want  string
	}{
		{[]string{"12"}, 1, 1, "A12"}, {[]string{"12"}, 2, 1, "A12"}, {[]string{"12"}, 3, 9, "A12"},
		{[]string{"12", "34"}, 1, 1, "A123"}, {[]string{"12", "34"}, 2, 1, "A1234"}, {[]string{"12", "34"}, 3, 1, "A1234"},
		{[]string{"12", "34", "56"}, 2, 1, "A12345"}, {[]string{"12", "34", "56"}, 3, 1, "A123456"},
		{[]string{"12", "34", "56", "78"}, 3, 1, "A1234567"}, {[]string{"12", "34", "56", "78"}, 3, 0, "A123456"},
		{[]string{"12", "34", "56", "78", "90"}, 3, 9, "A1234567"},
		{[]string{"", "12"}, 0, 1, "A"}, {[]string{"", "12"}, 1, 1, "A1"}, {[]string{"", "", "", "12"}, 3, 1, "A1"},
		{[]string{"1", "23"}, 0, 5, "A"}, {[]string{"1", "23"}, 1, 5, "A12"},
	} {
		d := downWith(t, []api.File{file("a", "A")}, func(d *disk.Disk) {
			for _, text := range x.texts {
				ok(t, d.Append("a", text))
			}
		})
		d.Rise(x.keep, x.cut)
		has(t, d, file("a", x.want))
	}
}

// P3.3: removals, and what is laid behind them; nothing of a whole text or of a removal stands in part.
func TestRiseRemovals(t *testing.T) {
	d := downWith(t, []api.File{file("a", "A")}, func(d *disk.Disk) {
		ok(t, d.Remove("a"), d.Append("a", "123"), d.Remove("a"), d.Write("a", "WW"))
	})
	for _, x := range []struct {
		keep, cut int
		want      []api.File
	}{
		{0, 0, []api.File{file("a", "A")}}, {0, 5, []api.File{file("a", "A")}},
		{1, 0, nil}, {1, -1, nil}, {1, 1, []api.File{file("a", "1")}}, {1, 7, []api.File{file("a", "12")}},
		{2, 0, []api.File{file("a", "123")}}, {2, 5, []api.File{file("a", "123")}},
		{3, 0, nil}, {3, 1, nil},
	} {
		e := d.Clone()
		e.Rise(x.keep, x.cut)
		has(t, e, x.want...)
		fall(e)
		has(t, e, x.want...)
	}
	gone := downWith(t, nil, func(d *disk.Disk) {
		ok(t, d.Append("a", ""), d.Append("a", "1"), d.Remove("a"))
	})
	for keep, want := range [][]api.File{nil, {file("a", "")}, {file("a", "1")}, nil} {
		e := gone.Clone()
		e.Rise(keep, 1)
		has(t, e, want...)
	}
}

// P3.3: a file that was not there when it was synced: a part of what was laid behind makes it anew.
func TestRiseNew(t *testing.T) {
	d := downWith(t, nil, func(d *disk.Disk) {
		ok(t, d.Append("a", "12"), d.Append("b", "3"), d.Append("c", ""), d.Write("d", "4"))
	})
	d.Rise(0, 5)
	has(t, d, file("a", "1"))
	ok(t, d.Append("a", "x"), d.Append("b", "y"))
	fall(d)
	has(t, d, file("a", "1"))
}

// P3.3: the digits go to the files with changes, by path, whatever the order of the changes.
func TestRiseSeveral(t *testing.T) {
	files := []api.File{file("a!x", "0"), file("a/x", "0"), file("b", "0"), file("c", "0"), file("e", "0")}
	d := downWith(t, files, func(d *disk.Disk) {
		ok(t, d.Write("d", "1"), d.Append("d", "23"))
		ok(t, d.Append("a/x", "1"), d.Remove("a/x"))
		ok(t, d.Write("e", "1"), d.Sync("e"))
		ok(t, d.Remove("c"), d.Append("c", "45"), d.Append("c", "67"))
		ok(t, d.Append("A", "12"), d.Remove("none"), d.Sync("b"))
		is(t, d.Write("aa", full+"x"), api.ErrPath)
		is(t, d.Append("b", full), api.ErrPath)
		is(t, d.Remove("a a"), api.ErrPath)
	})
	still := []api.File{file("a!x", "0"), file("b", "0")}
	for i, x := range []struct {
		keep, cut int
		want      []api.File
	}{
		{0, 0, []api.File{file("a/x", "0"), file("c", "0"), file("e", "1")}},
		{0, 1, []api.File{file("A", "1"), file("a/x", "0"), file("c", "0"), file("e", "1")}},
		{1, 0, []api.File{file("A", "12"), file("a/x", "0"), file("c", "0"), file("e", "1")}},
		{1 * 4, 0, []api.File{file("a/x", "01"), file("c", "0"), file("e", "1")}},
		{2 * 4, 0, []api.File{file("c", "0"), file("e", "1")}},
		{1 * 16, 0, []api.File{file("a/x", "0"), file("e", "1")}},
		{1 * 16, 1, []api.File{file("A", "1"), file("a/x", "0"), file("c", "4"), file("e", "1")}},
		{2 * 16, 1, []api.File{file("A", "1"), file("a/x", "0"), file("c", "456"), file("e", "1")}},
		{1 * 64, 0, []api.File{file("a/x", "0"), file("c", "0"), file("d", "1"), file("e", "1")}},
		{1 * 64, 1, []api.File{file("A", "1"), file("a/x", "0"), file("c", "0"), file("d", "12"), file("e", "1")}},
		{3 + 1*4 + 2*16 + 1*64, 1, []api.File{file("A", "12"), file("a/x", "01"), file("c", "456"), file("d", "12"), file("e", "1")}},
		{255, 0, []api.File{file("A", "12"), file("c", "4567"), file("d", "123"), file("e", "1")}},
		{256 * 3, 0, []api.File{file("a/x", "0"), file("c", "0"), file("e", "1")}},
		{-255, 0, []api.File{file("a/x", "0"), file("c", "0"), file("e", "1")}},
	} {
		e := d.Clone()
		e.Rise(x.keep, x.cut)
		byPath := map[string]string{}
		for _, f := range append(x.want, still...) {
			byPath[f.Path] = f.Text
		}
		got := e.Dump()
		for _, f := range got {
			if text, is := byPath[f.Path]; !is || text != f.Text {
				t.Errorf("%d: %q", i, f)
			}
		}
		if len(got) != len(byPath) {
			t.Errorf("%d: %q", i, got)
		}
	}
}

// P3.3: keep has digits for the first 32 files at most; those behind have none kept.
func TestRiseManyFiles(t *testing.T) {
	d := downWith(t, nil, func(d *disk.Disk) {
		for i := range 40 {
			ok(t, d.Write(string([]byte{'a', byte('0' + i/10), byte('0' + i%10)}), "x"))
		}
	})
	d.Rise(1<<63-1, 0)
	if n := len(d.Dump()); n != 32 {
		t.Error(n)
	}
}

// P3.3: behind Rise all is synced, so that a file has no more digit of its own, and nothing is armed.
func TestRiseSyncs(t *testing.T) {
	d := downWith(t, []api.File{file("a", "A"), file("b", "B")}, func(d *disk.Disk) {
		ok(t, d.Append("a", "1"), d.Remove("b"), d.Append("c", "C"))
	})
	d.Rise(1+1*4, 0)
	has(t, d, file("a", "A1"))
	for range 5 {
		ok(t, d.Sync("none"))
	}
	ok(t, d.Write("c", "1"), d.Write("d", "2"))
	d.Arm(1)
	is(t, d.Sync("d"), api.ErrDown)
	d.Rise(1, 0)
	has(t, d, file("a", "A1"), file("c", "1"))
}

// P3.3: a fall brings back what was removed, be there room or not; MaxFiles holds for what is written.
func TestRiseFull(t *testing.T) {
	d := made(t, crowd(api.MaxFiles)...)
	ok(t, d.Remove("7"), d.Write("a", "A"), d.Sync("a"))
	fall(d)
	if n := len(d.Dump()); n != api.MaxFiles+1 {
		t.Error(n)
	}
	is(t, d.Write("b", ""), api.ErrMany)
	ok(t, d.Write("7", "x"), d.Remove("8"))
	is(t, d.Write("b", ""), api.ErrMany)
	ok(t, d.Remove("9"), d.Write("b", ""))
}

// P3.3: Dump tells what the files are now, of a disk that is down what they were when the power went.
func TestDump(t *testing.T) {
	d := made(t, file("c", "C"), file("a", ""))
	has(t, d, file("a", ""), file("c", "C"))
	ok(t, d.Append("a", "1"), d.Remove("c"), d.Write("b", "2"))
	has(t, d, file("a", "1"), file("b", "2"))
	d.Arm(1)
	is(t, d.Write("a", "3"), api.ErrDown)
	is(t, d.Remove("b"), api.ErrDown)
	has(t, d, file("a", "1"), file("b", "2"))
	d.Rise(0, 0)
	has(t, d, file("a", ""), file("c", "C"))
}

// P3.3: a clone is all that the disk is, changes and count and what is armed too.
func TestCloneSame(t *testing.T) {
	d := made(t, file("a", "A"))
	ok(t, d.Append("a", "12"), d.Append("a", "3"))
	d.Arm(3)
	ok(t, d.Sync("none"))
	c := d.Clone()
	for _, e := range []*disk.Disk{c, d} {
		has(t, e, file("a", "A123"))
		if e.Ops() != 3 || e.Down() {
			t.Error(e.Ops(), e.Down())
		}
		ok(t, e.Append("b", "B"))
		is(t, e.Sync("a"), api.ErrDown)
		again := e.Clone()
		if !again.Down() || again.Ops() != 5 {
			t.Error(again.Down(), again.Ops())
		}
		again.Rise(1, 0)
		has(t, again, file("a", "A12"))
		e.Rise(0, 1)
		has(t, e, file("a", "A1"))
	}
}

// P3.3: what is done to one is not done to the other: files, changes, power, count.
func TestCloneApart(t *testing.T) {
	d := made(t, file("a", "A"), file("b", "B"))
	ok(t, d.Append("a", "1"), d.Remove("b"))
	c := d.Clone()
	ok(t, c.Append("a", "2"), c.Write("b", "x"), c.Write("n", "N"), c.Sync("n"))
	ok(t, d.Append("a", "3"), d.Sync("b"), d.Write("m", "M"))
	has(t, d, file("a", "A13"), file("m", "M"))
	has(t, c, file("a", "A12"), file("b", "x"), file("n", "N"))
	if d.Ops() != 5 || c.Ops() != 6 {
		t.Error(d.Ops(), c.Ops())
	}
	c.Arm(1)
	ok(t, d.Sync("none"))
	is(t, c.Sync("none"), api.ErrDown)
	if d.Down() || !c.Down() {
		t.Error(d.Down(), c.Down())
	}
	c.Rise(2+2*4, 0)
	has(t, c, file("a", "A12"), file("b", "x"), file("n", "N"))
	has(t, d, file("a", "A13"), file("m", "M"))
	d.Arm(1)
	is(t, d.Sync("none"), api.ErrDown)
	d.Rise(2, 0)
	has(t, d, file("a", "A13"))
	ok(t, c.Remove("a"))
	has(t, d, file("a", "A13"))
}
