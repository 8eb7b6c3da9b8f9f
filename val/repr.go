package val

import (
	"smithy/api"
	"smithy/lex"
)

// Repr is v as it is written: what lies too deep as `...`, and of what is too long the first api.MaxText bytes.
func Repr(v Value) string { return written(v) }

// Text is the bytes of a Str as they are, and of all else Repr.
func Text(v Value) string {
	if s, is := bytes(v); is {
		return s
	}
	return written(v)
}

func written(v Value) string {
	w := &writer{}
	w.value(v, 0)
	return string(w.text)
}

// writer writes till the text is full, and goes into no value any more then: those that have themselves, or others many times, would not end.
type writer struct{ text []byte }

func (w *writer) full() bool { return len(w.text) >= api.MaxText }

// put writes as much of s as there is room for.
func (w *writer) put(s string) { w.text = append(w.text, cut(s, api.MaxText-len(w.text))...) }

// cut is the first bytes of s, at most so many.
func cut(s string, most int) string { return s[:min(len(s), most)] }

// value writes a value that stands within so many others.
func (w *writer) value(v Value, within int) {
	switch x := v.(type) {
	case nothing:
		w.put("None")
	case truth:
		w.put(truthName(x))
	case *whole:
		w.put(x.n.Text())
	case text:
		// Each byte is written as one or more, so that those behind the bound don't show.
		w.put(lex.Quote(cut(string(x), api.MaxText)))
	case *List, *tuple, *Dict, *record:
		if within >= api.MaxDeep {
			w.put("...")
			return
		}
		w.holder(x, within+1)
	case spoken:
		w.put(x.Repr())
	}
}

func truthName(b truth) string {
	if b {
		return "True"
	}
	return "False"
}

// holder writes what has values, which stand within so many then.
func (w *writer) holder(v Value, within int) {
	switch x := v.(type) {
	case *List:
		w.put("[")
		w.row(x.items, within)
		w.put("]")
	case *tuple:
		w.put("(")
		w.row(x.items, within)
		if len(x.items) == 1 {
			w.put(",")
		}
		w.put(")")
	case *Dict:
		w.put("{")
		w.dict(x, within)
		w.put("}")
	case *record:
		w.put("struct(")
		w.record(x, within)
		w.put(")")
	}
}

// next writes what stands ahead of item i, and is whether there is room for the item.
func (w *writer) next(i int) bool {
	if i > 0 {
		w.put(", ")
	}
	return !w.full()
}

func (w *writer) row(l []Value, within int) {
	for i, v := range l {
		if !w.next(i) {
			return
		}
		w.value(v, within)
	}
}

func (w *writer) dict(d *Dict, within int) {
	i := 0
	for e := range d.each {
		if !w.next(i) {
			return
		}
		w.value(e.key, within)
		w.put(": ")
		w.value(e.value, within)
		i++
	}
}

func (w *writer) record(r *record, within int) {
	for i, name := range r.names {
		if !w.next(i) {
			return
		}
		w.put(name)
		w.put(" = ")
		w.value(r.values[i], within)
	}
}
