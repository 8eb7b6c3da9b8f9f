package list

import (
	"strings"

	"smithy/api"
	"smithy/val"
)

// Index is the place of the first item of a List or a Tuple that is equal to x.
func Index(v val.Value, x val.Value) (int, error) {
	at, err := find(v, x)
	if err != nil {
		return 0, err
	}
	if at < 0 {
		return 0, api.ErrDynamic
	}
	return at, nil
}

// find is Index, but -1 where there is none.
func find(v, x val.Value) (int, error) {
	l, is := val.Items(v)
	if !is || v.Kind() == api.VDict {
		return -1, api.ErrDynamic
	}
	return val.First(l, x)
}

// In is whether x is an item of a List, Tuple or range, a key of a Dict, or a Str within a Str.
func In(x, v val.Value) (bool, error) { return within(x, v) }

func within(x, v val.Value) (bool, error) {
	switch y := v.(type) {
	case *span:
		return y.has(x), nil
	case *val.Dict:
		_, is, err := y.Get(x)
		return is, err
	}
	if s, is := val.AsStr(v); is {
		return lies(x, s)
	}
	at, err := find(v, x)
	return err == nil && at >= 0, err
}

// lies is whether x, which has to be a Str, lies in s.
func lies(x val.Value, s string) (bool, error) {
	what, is := val.AsStr(x)
	if !is {
		return false, api.ErrDynamic
	}
	return strings.Contains(s, what), nil
}
