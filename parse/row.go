package parse

import (
	"smithy/api"
)

// row reads parts with commas between them; one more comma may stand behind. It tells, too, whether there was a comma:
// then they are a Tuple, where the language has one.
func (p *parser) row(part func() int, begins func() bool) (parts []int, comma bool) {
	parts = append(parts, part())
	for p.skip(",") {
		comma = true
		if !begins() {
			break
		}
		parts = append(parts, part())
	}
	return parts, comma
}

// items reads item after item, with commas between them, up to the sign that closes them; one more comma may stand ahead of it.
func (p *parser) items(closing string, item func()) {
	for !p.sees(closing) {
		item()
		if p.sees(closing) {
			return
		}
		p.need(",")
	}
}

// bare reads a row that has no brackets of its own. A Tuple is where the row begins, brackets around its first part counted.
func (p *parser) bare(row func() ([]int, bool)) int {
	pos := p.token().Pos
	parts, comma := row()
	return p.join(parts, comma, pos)
}

// round reads a row in round brackets.
func (p *parser) round(row func() ([]int, bool)) int {
	pos := p.enter("(")
	parts, comma := row()
	p.shut(")")
	return p.join(parts, comma, pos)
}

// join is the Tuple of a row's parts, or the one part, if there was no comma.
func (p *parser) join(parts []int, comma bool, pos int) int {
	if !comma {
		return parts[0]
	}
	return p.add(api.NTuple, pos, "", parts...)
}

// unlike is names of which none may be there twice.
type unlike map[string]struct{}

// fresh lays a name down, and tells whether it was not there till then.
func (u unlike) fresh(name string) bool {
	_, there := u[name]
	u[name] = struct{}{}
	return !there
}
