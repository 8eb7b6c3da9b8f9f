package str

import "smithy/api"

// made is a text that is made from the left, of api.MaxItems bytes at most.
type made struct{ text []byte }

// add puts the texts at the end. Its error has to end the call at once: a fault that stands further right isn't met any more.
func (m *made) add(texts ...string) error {
	for _, s := range texts {
		if len(s) > api.MaxItems-len(m.text) {
			return api.ErrLimit
		}
		m.text = append(m.text, s...)
	}
	return nil
}
