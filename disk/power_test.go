package disk_test

import (
	"testing"

	"smithy/api"
	"smithy/disk"
)

// call is one of the six that are counted, and what it has to answer when the power has gone.
type call struct {
	name string
	do   func(d *disk.Disk) error
}

func calls(t *testing.T) []call {
	return []call{
		{"Read", func(d *disk.Disk) error {
			text, there, err := d.Read("a")
			if err != nil && (text != "" || there) {
				t.Error(text, there)
			}
			return err
		}},
		{"Write", func(d *disk.Disk) error { return d.Write("a", "written") }},
		{"Append", func(d *disk.Disk) error { return d.Append("a", "more") }},
		{"Remove", func(d *disk.Disk) error { return d.Remove("a") }},
		{"Sync", func(d *disk.Disk) error { return d.Sync("a") }},
		{"List", func(d *disk.Disk) error {
			l, err := d.List()
			if err != nil && len(l) > 0 {
				t.Error(l)
			}
			return err
		}},
	}
}

// P3.2: each of the six is counted, what answers an error and what changes nothing too; all else is not.
func TestOps(t *testing.T) {
	d := made(t, file("a", "A"))
	for i, c := range calls(t) {
		ok(t, c.do(d))
		if d.Ops() != i+1 {
			t.Errorf("%s: %d", c.name, d.Ops())
		}
	}
	is(t, d.Write("no path", ""), api.ErrPath)
	is(t, d.Write("a", full+"x"), api.ErrPath)
	is(t, d.Append("no path", ""), api.ErrPath)
	is(t, d.Remove("no path"), api.ErrPath)
	is(t, d.Sync("no path"), api.ErrPath)
	reads(t, d, "no path", "", false)
	ok(t, d.Remove("none"), d.Sync("none"))
	if d.Ops() != 14 {
		t.Error(d.Ops())
	}
	d.Dump()
	d.Down()
	d.Arm(5)
	d.Arm(0)
	d.Rise(3, 3)
	d.Clone().List()
	d.Ops()
	if d.Ops() != 14 {
		t.Error(d.Ops())
	}
	many := made(t, crowd(api.MaxFiles)...)
	is(t, many.Write("a", ""), api.ErrMany)
	is(t, many.Append("a", ""), api.ErrMany)
	if many.Ops() != 2 {
		t.Error(many.Ops())
	}
}

// P3.2: the power goes ahead of the n-th call: that is counted, not done, and none behind it is either.
func TestArm(t *testing.T) {
	for n := 1; n <= 6; n++ {
		d := made(t)
		d.Arm(n)
		want := ""
		for i := 1; i < 10; i++ {
			err := d.Append("a", "x")
			if i < n {
				ok(t, err)
				want += "x"
			} else {
				is(t, err, api.ErrDown)
			}
			if d.Down() != (i >= n) || d.Ops() != min(i, n) {
				t.Fatal(n, i, d.Down(), d.Ops())
			}
		}
		if files := d.Dump(); (n == 1) != (len(files) == 0) || n > 1 && files[0].Text != want {
			t.Error(n, files)
		}
	}
}

// P3.2: each of the six can be the one ahead of which the power goes, and none is done on a disk that is down.
func TestDown(t *testing.T) {
	for _, first := range calls(t) {
		d := made(t, file("a", "A"), file("b", "B"))
		ok(t, d.Append("b", "1"))
		d.Arm(1)
		is(t, first.do(d), api.ErrDown)
		if !d.Down() || d.Ops() != 2 {
			t.Fatal(first.name, d.Down(), d.Ops())
		}
		for _, c := range calls(t) {
			is(t, c.do(d), api.ErrDown)
		}
		is(t, d.Sync("b"), api.ErrDown)
		if !d.Down() || d.Ops() != 2 {
			t.Error(first.name, d.Down(), d.Ops())
		}
		has(t, d, file("a", "A"), file("b", "B1"))
		d.Rise(0, 0)
		has(t, d, file("a", "A"), file("b", "B"))
		if d.Down() || d.Ops() != 2 {
			t.Error(first.name, d.Down(), d.Ops())
		}
	}
}

// P3.2: ErrDown goes ahead of all other errors, of the call ahead of which the power goes too.
func TestDownFirst(t *testing.T) {
	for _, f := range []func(d *disk.Disk) error{
		func(d *disk.Disk) error { return d.Write("no path", full+"x") },
		func(d *disk.Disk) error { return d.Write("x", "") },
		func(d *disk.Disk) error { return d.Append("no path", full+"x") },
		func(d *disk.Disk) error { return d.Append("x", "") },
		func(d *disk.Disk) error { return d.Remove("no path") },
		func(d *disk.Disk) error { return d.Sync("no path") },
		func(d *disk.Disk) error { _, _, err := d.Read("no path"); return err },
	} {
		d := made(t, crowd(api.MaxFiles)...)
		d.Arm(1)
		is(t, f(d), api.ErrDown)
		is(t, f(d), api.ErrDown)
		if d.Ops() != 1 {
			t.Error(d.Ops())
		}
	}
}

// P3.2: calls that answer an error or change nothing are among those that Arm counts; those that are not counted are not.
func TestArmCounts(t *testing.T) {
	d := made(t, file("a", "A"))
	d.Arm(4)
	is(t, d.Write("no path", ""), api.ErrPath)
	d.Dump()
	d.Ops()
	d.Down()
	d.Rise(0, 0)
	ok(t, d.Remove("none"))
	reads(t, d, "none", "", false)
	if d.Down() {
		t.Error("down too early")
	}
	is(t, d.Write("a", ""), api.ErrDown)
}

// P3.2: a number below 1 is never, also where another was armed ahead of it.
func TestArmNever(t *testing.T) {
	for _, n := range []int{0, -1, -1 << 63} {
		d := made(t)
		d.Arm(n)
		for range 5 {
			ok(t, d.Write("a", ""))
		}
		d.Arm(2)
		d.Arm(n)
		for range 5 {
			ok(t, d.Write("a", ""))
		}
		if d.Down() || d.Ops() != 10 {
			t.Error(n, d.Down(), d.Ops())
		}
	}
	d := made(t)
	d.Arm(1<<63 - 1)
	ok(t, d.Write("a", ""), d.Write("a", ""))
}

// P3.2: armed again, it is counted from then on.
func TestArmAgain(t *testing.T) {
	for _, x := range []struct{ first, done, second int }{{3, 2, 3}, {5, 0, 1}, {1, 0, 4}, {2, 1, 2}, {6, 3, 1}} {
		d := made(t)
		d.Arm(x.first)
		for range x.done {
			ok(t, d.Sync("a"))
		}
		d.Arm(x.second)
		for range x.second - 1 {
			ok(t, d.Sync("a"))
		}
		is(t, d.Sync("a"), api.ErrDown)
		if d.Ops() != x.done+x.second {
			t.Error(x, d.Ops())
		}
	}
}

// P3.2, P3.3: what is armed while the disk is down is over with Rise, and Arm raises nothing.
func TestArmDown(t *testing.T) {
	for _, n := range []int{-1, 0, 1, 2} {
		d := made(t)
		d.Arm(1)
		is(t, d.Sync("a"), api.ErrDown)
		d.Arm(n)
		if !d.Down() {
			t.Error(n, "up")
		}
		is(t, d.Sync("a"), api.ErrDown)
		d.Rise(0, 0)
		for range 4 {
			ok(t, d.Sync("a"))
		}
		if d.Ops() != 5 {
			t.Error(n, d.Ops())
		}
	}
}
