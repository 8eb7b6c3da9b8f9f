package list

import (
	"smithy/api"
	"smithy/num"
	"smithy/str"
	"smithy/val"
)

// Put puts x into a List in the place of item i; below 0 from the end.
func Put(v val.Value, i num.Num, x val.Value) error { return put(v, i, x) }

func put(v val.Value, i num.Num, x val.Value) error {
	l, is := v.(*val.List)
	if !is {
		return api.ErrDynamic
	}
	at, is := place(i, length(l))
	if !is {
		return api.ErrDynamic
	}
	return val.Splice(l, at, at+1, x)
}

func length(l *val.List) int {
	n, _ := val.Len(l)
	return n
}

// fits tells why l can't become one of n items.
func fits(l *val.List, n int) error {
	if val.Fixed(l) {
		return api.ErrDynamic
	}
	if n > api.MaxItems {
		return api.ErrLimit
	}
	return nil
}

// Append puts x at the end.
func Append(l *val.List, x val.Value) error { return add(l, length(l), x) }

// Extend puts all these at the end.
func Extend(l *val.List, x ...val.Value) error { return add(l, length(l), x...) }

// Insert puts x ahead of item i, cut to the bounds as str.Cut does.
func Insert(l *val.List, i num.Num, x val.Value) error {
	at, _ := str.Cut(length(l), bound(i), 0, true, false)
	return add(l, at, x)
}

// add puts these in at that place.
func add(l *val.List, at int, x ...val.Value) error {
	if err := fits(l, length(l)+len(x)); err != nil {
		return err
	}
	return val.Splice(l, at, at, x...)
}

// Pop takes item i out, and is what it was; below 0 from the end.
func Pop(l *val.List, i num.Num) (val.Value, error) {
	n := length(l)
	if err := fits(l, n-1); err != nil {
		return nil, err
	}
	at, is := place(i, n)
	if !is {
		return nil, api.ErrDynamic
	}
	x := item(l, at)
	return x, val.Splice(l, at, at+1)
}

// Remove takes the first item out that is equal to x.
func Remove(l *val.List, x val.Value) error {
	if err := fits(l, length(l)-1); err != nil {
		return err
	}
	at, err := Index(l, x)
	if err != nil {
		return err
	}
	return val.Splice(l, at, at+1)
}

// Clear takes all items out.
func Clear(l *val.List) error {
	return val.Splice(l, 0, length(l))
}
