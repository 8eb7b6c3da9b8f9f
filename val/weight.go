package val

// Heavy is whether these weigh more than 2^12 in all: each counts itself, and, of a List, Tuple, Struct or Dict, all that it has, as often as it stands.
func Heavy(l []Value) bool {
	s := &scale{}
	return !s.row(l)
}

// scale weighs till it is too much: values that have themselves, or others many times, would not end.
type scale struct{ weight int }

// put lays a value on, and is whether it is not too much as yet.
func (s *scale) put(v Value) bool {
	if s.weight++; s.weight > most {
		return false
	}
	switch x := v.(type) {
	case *List:
		return s.row(x.items)
	case *tuple:
		return s.row(x.items)
	case *record:
		return s.row(x.values)
	case *Dict:
		return s.dict(x)
	}
	return true
}

func (s *scale) row(l []Value) bool {
	for _, v := range l {
		if !s.put(v) {
			return false
		}
	}
	return true
}

func (s *scale) dict(d *Dict) bool {
	for e := range d.each {
		if !s.put(e.key) || !s.put(e.value) {
			return false
		}
	}
	return true
}
