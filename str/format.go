package str

import (
	"strconv"
	"strings"

	"smithy/api"
	"smithy/lex"
)

// mostDigits are as many as the number of a place in a Format may have.
const mostDigits = 9

// Format is s with the texts of l, and those that have names, in the places that its braces say.
func Format(s string, l []string, names []string, values []string) (string, error) {
	m, f := &made{}, newFields(l, names, values)
	for {
		at := strings.IndexAny(s, "{}")
		if at < 0 {
			break
		}
		if err := m.add(s[:at]); err != nil {
			return "", err
		}
		text, rest, is := f.brace(s[at:])
		if !is {
			return "", api.ErrDynamic
		}
		if err := m.add(text); err != nil {
			return "", err
		}
		s = rest
	}
	if err := m.add(s); err != nil {
		return "", err
	}
	return string(m.text), nil
}

// fields is what the braces of a Format may take, and how it has been taken so far.
type fields struct {
	l, values []string
	// places has of each name its first place.
	places map[string]int
	// taken is how many were taken as the next one.
	taken    int
	numbered bool
}

func newFields(l, names, values []string) *fields {
	// A name without a value is as one that is not there.
	names = names[:min(len(names), len(values))]
	places := make(map[string]int, len(names))
	for i, name := range names {
		if _, is := places[name]; !is {
			places[name] = i
		}
	}
	return &fields{l: l, values: values, places: places}
}

// brace is what stands for the brace that s begins with, the rest of s, and whether it is right.
func (f *fields) brace(s string) (string, string, bool) {
	if rest, is := strings.CutPrefix(s, "{{"); is {
		return "{", rest, true
	}
	if rest, is := strings.CutPrefix(s, "}}"); is {
		return "}", rest, true
	}
	field, rest, is := strings.Cut(s[1:], "}")
	if s[0] == '}' || !is {
		return "", "", false
	}
	text, is := f.field(field)
	return text, rest, is
}

// field is the text for what stands between two braces, and whether there is one.
func (f *fields) field(s string) (string, bool) {
	switch {
	case s == "":
		f.taken++
		return f.placed(f.taken - 1)
	case IsDigits(s) && len(s) <= mostDigits:
		f.numbered = true
		// So few digits are always a number.
		n, _ := strconv.Atoi(s)
		return f.placed(n)
	case lex.Name(s):
		return f.named(s)
	}
	return "", false
}

// placed is the text of l at the place i. Those that are the next one and those by number may not stand in one Format.
func (f *fields) placed(i int) (string, bool) {
	if i >= len(f.l) || f.numbered && f.taken > 0 {
		return "", false
	}
	return f.l[i], true
}

// named is the value of the first such name.
func (f *fields) named(name string) (string, bool) {
	i, is := f.places[name]
	if !is {
		return "", false
	}
	return f.values[i], true
}
