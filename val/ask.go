package val

import (
	"slices"

	"smithy/num"
)

// AsInt is the number that v is, and whether it is an Int.
func AsInt(v Value) (num.Num, bool) { return number(v) }

func number(v Value) (num.Num, bool) {
	if x, is := v.(*whole); is {
		return x.n, true
	}
	return num.Num{}, false
}

// AsStr is the bytes that v is, and whether it is a Str.
func AsStr(v Value) (string, bool) { return bytes(v) }

func bytes(v Value) (string, bool) {
	x, is := v.(text)
	return string(x), is
}

// Items is what a List or a Tuple has, or the keys of a Dict, as they are now, and whether v is one of these.
func Items(v Value) ([]Value, bool) { return items(v) }

func items(v Value) ([]Value, bool) {
	switch x := v.(type) {
	case *List:
		return slices.Clone(x.items), true
	case *tuple:
		return slices.Clone(x.items), true
	case *Dict:
		return x.keys(), true
	}
	return nil, false
}

// Field is the value that a Struct has by this name, and whether it has one.
func Field(v Value, name string) (Value, bool) { return field(v, name) }

func field(v Value, name string) (Value, bool) {
	if x, is := v.(*record); is {
		if at, is := slices.BinarySearch(x.names, name); is {
			return x.values[at], true
		}
	}
	return nil, false
}

// Fields is the names of a Struct, by bytes.
func Fields(v Value) []string { return names(v) }

func names(v Value) []string {
	if x, is := v.(*record); is {
		return slices.Clone(x.names)
	}
	return nil
}

// Type is the name of v's kind.
func Type(v Value) string {
	if v == nil {
		return ""
	}
	kinds := [...]string{"", "NoneType", "bool", "int", "string", "list", "tuple", "dict", "struct", "function", "depset", "range"}
	kind := v.Kind()
	if kind < 0 || kind >= len(kinds) {
		return ""
	}
	return kinds[kind]
}

// Truth is whether v counts as true: what is 0, or has nothing in it, does not; a Struct and a function always do.
func Truth(v Value) bool { return holds(v) }

func holds(v Value) bool {
	switch x := v.(type) {
	case nothing:
		return false
	case truth:
		return bool(x)
	case *whole:
		return x.n.Cmp(num.Num{}) != 0
	case hollow:
		return !x.Empty()
	}
	n, is := size(v)
	return !is || n > 0
}

// Len is how many bytes a Str has, or items a List or a Tuple, or keys a Dict, and whether v is one of these.
func Len(v Value) (int, bool) { return size(v) }

func size(v Value) (int, bool) {
	switch x := v.(type) {
	case text:
		return len(x), true
	case *List:
		return len(x.items), true
	case *tuple:
		return len(x.items), true
	case *Dict:
		return x.Len(), true
	}
	return 0, false
}
