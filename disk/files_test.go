package disk_test

import (
	"errors"
	"slices"
	"strconv"
	"strings"
	"testing"

	"smithy/api"
	"smithy/disk"
)

var (
	full    = strings.Repeat("x", api.MaxText)
	noPaths = []string{"", ".", "..", "/", "a/", "/a", "a//b", "a/..", "no path", "*", "a\x00", "\u00e4", strings.Repeat("a", api.MaxPath+1)}
)

func file(p, text string) api.File { return api.File{Path: p, Text: text} }

func made(t *testing.T, files ...api.File) *disk.Disk {
	t.Helper()
	d, err := disk.New(files...)
	if d == nil || err != nil {
		t.Fatal(d, err)
	}
	return d
}

// crowd is n files, none of them a letter.
func crowd(n int) []api.File {
	var l []api.File
	for i := range n {
		l = append(l, file(strconv.Itoa(i), ""))
	}
	return l
}

func ok(t *testing.T, errs ...error) {
	t.Helper()
	for i, err := range errs {
		if err != nil {
			t.Fatal(i, err)
		}
	}
}

func is(t *testing.T, err, want error) {
	t.Helper()
	if !errors.Is(err, want) {
		t.Errorf("%v; want %v", err, want)
	}
}

// has holds that the disk's files are these, by Dump.
func has(t *testing.T, d *disk.Disk, want ...api.File) {
	t.Helper()
	if got := d.Dump(); !slices.Equal(got, want) {
		t.Errorf("%.200q; want %.200q", got, want)
	}
}

func reads(t *testing.T, d *disk.Disk, p, want string, there bool) {
	t.Helper()
	if text, is, err := d.Read(p); text != want || is != there || err != nil {
		t.Errorf("Read(%q): %.60q, %v, %v; want %.60q, %v", p, text, is, err, want, there)
	}
}

// fall lets the power go and come back, with nothing kept of what was not synced.
func fall(d *disk.Disk) {
	d.Arm(1)
	d.List()
	d.Rise(0, 0)
}

// P3.1: New of no file and of several, which are synced.
func TestNew(t *testing.T) {
	for _, d := range []*disk.Disk{made(t), made(t, []api.File{}...)} {
		has(t, d)
		if l, err := d.List(); len(l) > 0 || err != nil {
			t.Error(l, err)
		}
	}
	d := made(t, file("b", "2"), file("a/c", ""), file("a", full), file("a!c", "1"))
	want := []api.File{file("a", full), file("a!c", "1"), file("a/c", ""), file("b", "2")}
	has(t, d, want...)
	if d.Ops() != 0 || d.Down() {
		t.Error(d.Ops(), d.Down())
	}
	fall(d)
	has(t, d, want...)
	d = made(t, crowd(api.MaxFiles)...)
	if n := len(d.Dump()); n != api.MaxFiles {
		t.Error(n)
	}
}

// P3.1: New at wrong inputs; ErrPath goes first, wherever it is met.
func TestNewErrors(t *testing.T) {
	many := crowd(api.MaxFiles + 1)
	type row struct {
		files []api.File
		want  error
	}
	rows := []row{
		{[]api.File{file("a", "1"), file("a", "1")}, api.ErrPath},
		{[]api.File{file("a", ""), file("b", ""), file("a", "1")}, api.ErrPath},
		{[]api.File{file("a", full+"x")}, api.ErrPath},
		{[]api.File{file("b", ""), file("a", full+"x"), file("c", "")}, api.ErrPath},
		{many, api.ErrMany},
		{append(slices.Clone(many), file("a", full)), api.ErrMany},
		{append(slices.Clone(many), file("", "")), api.ErrPath},
		{append(slices.Clone(many), file("7", "")), api.ErrPath},
		{append(slices.Clone(many), file("a", full+"x")), api.ErrPath},
		{append(crowd(api.MaxFiles), file("7", "")), api.ErrPath},
	}
	for _, p := range noPaths {
		rows = append(rows, row{[]api.File{file(p, "")}, api.ErrPath}, row{[]api.File{file("a", ""), file(p, "x"), file("b", "")}, api.ErrPath})
	}
	for i, x := range rows {
		d, err := disk.New(x.files...)
		if d != nil {
			t.Error(i, "a disk beside an error")
		}
		is(t, err, x.want)
	}
}

// P3.1, P0.4: what is handed in is left alone and not kept, and what is handed out is new memory.
func TestMemory(t *testing.T) {
	room := []api.File{file("b", "2"), file("a", "1"), file("behind", "")}
	before := slices.Clone(room)
	d := made(t, room[:2]...)
	if !slices.Equal(room, before) {
		t.Error(room)
	}
	clear(room)
	has(t, d, file("a", "1"), file("b", "2"))
	l, _ := d.List()
	files := d.Dump()
	again, _ := d.List()
	for i := range l[:cap(l)] {
		l[:cap(l)][i] = "written"
	}
	for i := range files[:cap(files)] {
		files[:cap(files)][i] = file("written", "")
	}
	has(t, d, file("a", "1"), file("b", "2"))
	if third, _ := d.List(); !slices.Equal(again, []string{"a", "b"}) || !slices.Equal(third, again) {
		t.Error(again, third)
	}
}

// P3.1: Write, Append and Remove of files that are there, and of such as are not.
func TestChanges(t *testing.T) {
	d := made(t, file("a", "1"), file("b", "2"), file("c", "3"))
	ok(t, d.Write("a", "new"), d.Write("d", "4"), d.Write("c", ""))
	has(t, d, file("a", "new"), file("b", "2"), file("c", ""), file("d", "4"))
	ok(t, d.Append("b", "22"), d.Append("b", ""), d.Append("b", "3"), d.Append("e", "5"), d.Append("f", ""), d.Append("c", "c"))
	has(t, d, file("a", "new"), file("b", "2223"), file("c", "c"), file("d", "4"), file("e", "5"), file("f", ""))
	ok(t, d.Remove("a"), d.Remove("a"), d.Remove("none"), d.Remove("f"), d.Remove("c"))
	has(t, d, file("b", "2223"), file("d", "4"), file("e", "5"))
	ok(t, d.Append("a", "x"), d.Write("c", "y"), d.Append("c", "\x00\xff"))
	has(t, d, file("a", "x"), file("b", "2223"), file("c", "y\x00\xff"), file("d", "4"), file("e", "5"))
	ok(t, d.Sync("a"), d.Sync("none"), d.Sync("f"))
	has(t, d, file("a", "x"), file("b", "2223"), file("c", "y\x00\xff"), file("d", "4"), file("e", "5"))
}

// P3.1: Read of what is there, of what is not, of what is no more, and of what is no path.
func TestRead(t *testing.T) {
	d := made(t, file("a", "1"), file("b/c", ""))
	reads(t, d, "a", "1", true)
	reads(t, d, "b/c", "", true)
	for _, p := range append([]string{"b", "c", "a/b", "A"}, noPaths...) {
		reads(t, d, p, "", false)
	}
	ok(t, d.Remove("a"), d.Append("n", "x"))
	reads(t, d, "a", "", false)
	reads(t, d, "n", "x", true)
	ok(t, d.Sync("a"), d.Append("n", "y"))
	reads(t, d, "a", "", false)
	reads(t, d, "n", "xy", true)
}

// P3.1: List goes by bytes, and has what is there alone.
func TestList(t *testing.T) {
	d := made(t, file("b", ""), file("a/b", ""), file("a", ""), file("B", ""), file("a!b", ""), file("a0", ""), file("~", ""), file("!", ""), file("10", ""), file("9", ""))
	ok(t, d.Write("ab", ""), d.Append("A", ""), d.Remove("b"), d.Write("gone", ""), d.Remove("gone"))
	want := []string{"!", "10", "9", "A", "B", "a", "a!b", "a/b", "a0", "ab", "~"}
	l, err := d.List()
	if !slices.Equal(l, want) || err != nil {
		t.Errorf("%q, %v", l, err)
	}
	var dumped []string
	for _, f := range d.Dump() {
		dumped = append(dumped, f.Path)
	}
	if !slices.Equal(dumped, want) {
		t.Errorf("%q", dumped)
	}
}

// P3.1: each call that takes a path, with a text that is none.
func TestNoPath(t *testing.T) {
	d := made(t, file("a", "1"))
	for _, p := range noPaths {
		is(t, d.Write(p, "x"), api.ErrPath)
		is(t, d.Append(p, "x"), api.ErrPath)
		is(t, d.Append(p, ""), api.ErrPath)
		is(t, d.Remove(p), api.ErrPath)
		is(t, d.Sync(p), api.ErrPath)
		is(t, d.Write(p, full+"x"), api.ErrPath)
	}
	has(t, d, file("a", "1"))
	ok(t, d.Write(strings.Repeat("p", api.MaxPath), ""))
}

// P3.1: texts of MaxText bytes, and of one more.
func TestTooLong(t *testing.T) {
	d := made(t, file("a", "old"), file("b", full[1:]), file("c", full))
	is(t, d.Write("a", full+"x"), api.ErrPath)
	is(t, d.Write("n", full+"x"), api.ErrPath)
	is(t, d.Append("a", full[2:]), api.ErrPath)
	is(t, d.Append("n", full+"x"), api.ErrPath)
	is(t, d.Append("b", "12"), api.ErrPath)
	is(t, d.Append("c", "1"), api.ErrPath)
	has(t, d, file("a", "old"), file("b", full[1:]), file("c", full))
	ok(t, d.Append("b", "1"), d.Append("c", ""), d.Append("n", full), d.Write("a", full))
	has(t, d, file("a", full), file("b", full[1:]+"1"), file("c", full), file("n", full))
	is(t, d.Append("b", "2"), api.ErrPath)
	ok(t, d.Remove("c"), d.Append("c", "1"), d.Write("a", ""), d.Append("a", full))
	reads(t, d, "c", "1", true)
}

// P3.1: a disk that is full, and one file too many; ErrPath goes first.
func TestTooMany(t *testing.T) {
	d := made(t, crowd(api.MaxFiles)...)
	is(t, d.Write("a", ""), api.ErrMany)
	is(t, d.Append("a", "x"), api.ErrMany)
	is(t, d.Append("a", ""), api.ErrMany)
	is(t, d.Write("a", full+"x"), api.ErrPath)
	is(t, d.Append("a", full+"x"), api.ErrPath)
	is(t, d.Write("no path", "x"), api.ErrPath)
	is(t, d.Append("no path", "x"), api.ErrPath)
	reads(t, d, "a", "", false)
	ok(t, d.Write("7", "x"), d.Append("8", "y"), d.Remove("a"), d.Sync("a"))
	is(t, d.Write("a", ""), api.ErrMany)
	ok(t, d.Remove("9"), d.Append("a", "x"))
	is(t, d.Write("9", ""), api.ErrMany)
	ok(t, d.Remove("a"), d.Write("9", ""), d.Write("9", "x"))
	is(t, d.Append("b", ""), api.ErrMany)
	if n := len(d.Dump()); n != api.MaxFiles {
		t.Error(n)
	}
	almost := made(t, crowd(api.MaxFiles-1)...)
	ok(t, almost.Append("a", ""), almost.Append("a", "x"))
	is(t, almost.Append("b", ""), api.ErrMany)
}

// P3.1: what is synced is what a fall leaves: of the file that was named alone.
func TestSync(t *testing.T) {
	d := made(t, file("a", "A"), file("b", "B"), file("c", "C"))
	ok(t, d.Append("a", "1"), d.Append("b", "1"), d.Remove("c"), d.Write("n", "N"), d.Write("m", "M"))
	ok(t, d.Sync("a"), d.Sync("c"), d.Sync("n"), d.Sync("none"))
	fall(d)
	has(t, d, file("a", "A1"), file("b", "B"), file("n", "N"))
	ok(t, d.Append("a", "2"), d.Sync("a"), d.Append("a", "3"), d.Write("c", "x"), d.Sync("n"), d.Remove("n"))
	fall(d)
	has(t, d, file("a", "A12"), file("b", "B"), file("n", "N"))
}
