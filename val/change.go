package val

import (
	"slices"

	"smithy/api"
)

// What the layers above need of Lists and Dicts, to go over them and to change Lists.

// lock keeps what may be changed from being changed: it was frozen, or there are some that go over it.
type lock struct {
	frozen bool
	over   int
}

func (k *lock) shut() bool { return k.frozen || k.over > 0 }

// lockOf is the lock of a List or a Dict; nil, where v can't be changed anyway.
func lockOf(v Value) *lock {
	switch x := v.(type) {
	case *List:
		return &x.lock
	case *Dict:
		return &x.lock
	}
	return nil
}

// Fixed is whether v can't be changed as it is now: a List or a Dict that is frozen or gone over, and all that is neither.
func Fixed(v Value) bool {
	k := lockOf(v)
	return k == nil || k.shut()
}

// Hold says that one more goes over v: it can't be changed then till there was a Free for each Hold.
func Hold(v Value) {
	// What is frozen stays as it is anyway, and may be gone over by several goroutines at once.
	if k := lockOf(v); k != nil && !k.frozen {
		k.over++
	}
}

// Free says that one less goes over v.
func Free(v Value) {
	if k := lockOf(v); k != nil && !k.frozen && k.over > 0 {
		k.over--
	}
}

// Step is the item of a List or a Tuple at this place, or the first key of a Dict from there on; and the place from which to go on.
func Step(v Value, at int) (Value, int, bool) {
	if at < 0 {
		return nil, 0, false
	}
	return step(v, at)
}

func step(v Value, at int) (Value, int, bool) {
	switch x := v.(type) {
	case *List:
		return stepRow(x.items, at)
	case *tuple:
		return stepRow(x.items, at)
	case *Dict:
		return x.step(at)
	}
	return nil, 0, false
}

func stepRow(items []Value, at int) (Value, int, bool) {
	if at >= len(items) {
		return nil, 0, false
	}
	return items[at], at + 1, true
}

func (d *Dict) step(at int) (Value, int, bool) {
	for ; at < len(d.entries); at++ {
		if e := d.entries[at]; !e.gone {
			return e.key, at + 1, true
		}
	}
	return nil, 0, false
}

// Splice puts these into l in the place of its items from from to to (both cut to those that there are): api.ErrDynamic, if it can't be changed.
func Splice(l *List, from, to int, x ...Value) error {
	if l.shut() {
		return api.ErrDynamic
	}
	from = min(max(from, 0), len(l.items))
	to = min(max(to, from), len(l.items))
	l.items = slices.Replace(l.items, from, to, x...)
	return nil
}
