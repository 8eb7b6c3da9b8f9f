package disk

const (
	keepBase = 4        // of the digits that tell how many changes stand
	mostKept = keepBase // what a digit tells at most, and the change behind, which may stand in part
)

// content is what a file is at one time; its zero value is that of a file that isn't there.
type content struct {
	text  string
	there bool
}

// The kinds of changes.
const (
	whole = iota
	behind
	removal
)

// change is a change to a file: a whole text, a text laid behind, or its removal.
type change struct {
	kind int
	text string
}

// on is what the change makes of a file that was this.
func (c change) on(was content) content {
	switch c.kind {
	case whole:
		return content{c.text, true}
	case behind:
		return content{was.text + c.text, true}
	}
	return content{}
}

// part is the change as far as it stands when the power goes in its midst; false, if nothing of it does.
func (c change) part(cut int) (change, bool) {
	n := min(cut, len(c.text)-1)
	if c.kind != behind || n < 1 {
		return change{}, false
	}
	return change{behind, c.text[:n]}, true
}

// history is what was synced of a file, and the first of its changes since. No fall can leave anything of those
// behind mostKept, so they are not kept. It holds no pointers but to texts, so a copy of it goes its own way.
type history struct {
	synced  content
	changes [mostKept]change
	count   int
}

// with is the history with one more change.
func (h history) with(c change) history {
	if h.count < mostKept {
		h.changes[h.count] = c
		h.count++
	}
	return h
}

// left is what a fall leaves of the file: so many changes stand, and of the one behind these a part.
func (h history) left(stand, cut int) content {
	stand = min(stand, h.count)
	now := h.synced
	for _, c := range h.changes[:stand] {
		now = c.on(now)
	}
	if stand == h.count {
		return now
	}
	if c, ok := h.changes[stand].part(cut); ok {
		now = c.on(now)
	}
	return now
}
