package val

import (
	"strconv"

	"smithy/api"
)

// most is how many values, or pairs of them, one call looks at.
const most = 1 << 12

// Key is a text that just the values that are equal to v have: api.ErrDynamic, if v can't be hashed; api.ErrLimit, if it is too deep or has too much in it.
func Key(v Value) (string, error) {
	k := &keyer{}
	if err := k.add(v, 0); err != nil {
		return "", err
	}
	return string(k.text), nil
}

// keyer writes a text from whose beginning on it shows where each value in it ends: so no two have the same.
type keyer struct {
	text   []byte
	looked int // how many values were looked at
}

// add writes a value that stands within so many others.
func (k *keyer) add(v Value, within int) error {
	if k.looked++; k.looked > most {
		return api.ErrLimit
	}
	switch x := v.(type) {
	case nothing:
		k.text = append(k.text, 'N')
	case truth:
		k.text = append(k.text, 'B', sign(x))
	case *whole:
		k.text = append(k.text, 'I')
		k.text = append(k.text, x.n.Text()...)
		k.text = append(k.text, ';')
	case text:
		k.text = append(k.text, 'S')
		k.text = strconv.AppendInt(k.text, int64(len(x)), 10)
		k.text = append(k.text, ';')
		k.text = append(k.text, x...)
	case *tuple:
		return k.row(x.items, within)
	default:
		return api.ErrDynamic
	}
	return nil
}

func sign(b truth) byte {
	if b {
		return '1'
	}
	return '0'
}

// row writes the items of a Tuple that stands within so many others.
func (k *keyer) row(items []Value, within int) error {
	if within >= api.MaxDeep {
		return api.ErrLimit
	}
	k.text = append(k.text, '(')
	for _, item := range items {
		if err := k.add(item, within+1); err != nil {
			return err
		}
	}
	k.text = append(k.text, ')')
	return nil
}
