package val

import "smithy/api"

// Dict is values by keys, which stay in the order in which they were set first.
type Dict struct {
	entries []entry
	places  map[string]int // of each key that is there, by its mark, where in entries it stands
	lock
}

// entry is a key with its value. One that was taken out stays as a gap, so that those behind it keep their places.
type entry struct {
	key, value Value
	mark       string // the key's Key
	gone       bool
}

// NewDict is a new Dict that has nothing.
func NewDict() *Dict { return &Dict{} }

// Len is how many keys there are.
func (d *Dict) Len() int { return len(d.places) }

// Get is the value of a key, and whether it is there: Key's error.
func (d *Dict) Get(k Value) (Value, bool, error) {
	mark, err := Key(k)
	if err != nil {
		return nil, false, err
	}
	v, is := d.at(mark)
	return v, is, nil
}

// at is the value of the key that has this mark, and whether it is there.
func (d *Dict) at(mark string) (Value, bool) {
	if at, is := d.places[mark]; is {
		return d.entries[at].value, true
	}
	return nil, false
}

// Set gives a key its value, and a new one its place behind all others: Key's error; api.ErrDynamic, if the Dict can't be changed.
func (d *Dict) Set(k, v Value) error {
	mark, err := d.change(k)
	if err != nil {
		return err
	}
	if at, is := d.places[mark]; is {
		d.entries[at].value = v
		return nil
	}
	if d.places == nil {
		d.places = map[string]int{}
	}
	d.places[mark] = len(d.entries)
	d.entries = append(d.entries, entry{key: k, value: v, mark: mark})
	return nil
}

// Del takes a key out, and is the value that it had, and whether it was there: as Set's errors.
func (d *Dict) Del(k Value) (Value, bool, error) {
	mark, err := d.change(k)
	if err != nil {
		return nil, false, err
	}
	at, is := d.places[mark]
	if !is {
		return nil, false, nil
	}
	v := d.entries[at].value
	d.entries[at] = entry{gone: true}
	delete(d.places, mark)
	d.closeGaps()
	return v, true, nil
}

// change is the mark of a key with which something is to be changed.
func (d *Dict) change(k Value) (string, error) {
	mark, err := Key(k)
	if err != nil {
		return "", err
	}
	if d.shut() {
		return "", api.ErrDynamic
	}
	return mark, nil
}

// closeGaps lays the entries together when more than half are gaps: so seldom that a Del costs no more for it.
func (d *Dict) closeGaps() {
	if len(d.entries) <= 2*len(d.places) {
		return
	}
	left := make([]entry, 0, len(d.places))
	for _, e := range d.entries {
		if !e.gone {
			d.places[e.mark] = len(left)
			left = append(left, e)
		}
	}
	d.entries = left
}

// each goes over what is there, in order.
func (d *Dict) each(yield func(entry) bool) {
	for _, e := range d.entries {
		if !e.gone && !yield(e) {
			return
		}
	}
}

func (d *Dict) keys() []Value {
	keys := make([]Value, 0, d.Len())
	for e := range d.each {
		keys = append(keys, e.key)
	}
	return keys
}
