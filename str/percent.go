package str

import (
	"strings"

	"smithy/api"
	"smithy/val"
)

// Percent is s with the values of l, one after the other, in the places that its `%` say.
func Percent(s string, l []val.Value) (string, error) {
	m := &made{}
	for {
		ahead, behind, is := strings.Cut(s, "%")
		if err := m.add(ahead); err != nil {
			return "", err
		}
		if !is {
			break
		}
		text, took, is := sign(behind, l)
		if !is {
			return "", api.ErrDynamic
		}
		if err := m.add(text); err != nil {
			return "", err
		}
		s, l = behind[1:], l[took:]
	}
	if len(l) > 0 {
		return "", api.ErrDynamic
	}
	return string(m.text), nil
}

// sign is the text for a `%` with s behind it, how many of l it takes, and whether it is right.
func sign(s string, l []val.Value) (string, int, bool) {
	if s == "" {
		return "", 0, false
	}
	if s[0] == '%' {
		return "%", 0, true
	}
	if len(l) == 0 {
		return "", 0, false
	}
	text, is := told(l[0], s[0])
	return text, 1, is
}

// told is v as the byte behind a `%` asks for it, and whether it can be told so.
func told(v val.Value, how byte) (string, bool) {
	switch how {
	case 's':
		return val.Text(v), true
	case 'r':
		return val.Repr(v), true
	case 'd':
		n, is := val.AsInt(v)
		return n.Text(), is
	}
	return "", false
}
