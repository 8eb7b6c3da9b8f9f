package lex

import (
	"strings"

	"smithy/api"
)

const (
	oneByteSigns = "<>=+-*%()[]{},:."
	opening      = "([{"
	closing      = ")]}" // each in the place of the one that it closes
)

// scanner is a text on its way to tokens. It stops at the first fault that it meets. As it reads from the left,
// and looks at a token's indent and its beginning ahead of what lies within it, that is the first one from the left.
type scanner struct {
	text   string
	pos    int // of what is read next
	tokens []api.Token
	blocks []int  // the spaces of each block that is open; the first one is that of no spaces
	open   []byte // what closes each bracket that is open
}

func fault(pos int) error {
	return &api.At{Pos: pos, Err: api.ErrLex}
}

// all reads the whole text.
func (s *scanner) all() error {
	for {
		if err := s.line(); err != nil {
			return err
		}
		if s.pos == len(s.text) {
			return s.end()
		}
		s.pos++ // the newline
	}
}

// line reads a line, up to what ends it.
func (s *scanner) line() error {
	from := s.pos
	s.gap()
	if s.lineEnds() {
		return nil
	}
	if len(s.open) == 0 {
		if err := s.indent(s.pos - from); err != nil {
			return err
		}
	}
	for !s.lineEnds() {
		if err := s.token(); err != nil {
			return err
		}
		s.gap()
	}
	if len(s.open) == 0 {
		s.add(api.TNewline, "", 0)
	}
	return nil
}

// end is what stands behind the last line.
func (s *scanner) end() error {
	if len(s.open) > 0 {
		return fault(s.pos)
	}
	s.dedent(0)
	s.add(api.TEnd, "", 0)
	return nil
}

// gap reads the spaces and the comment that stand here, if any do. A byte that may not be in a comment ends it:
// as no token begins with such a byte, the fault is told there all the same.
func (s *scanner) gap() {
	s.pos += length(s.text[s.pos:], isSpace)
	if !s.lineEnds() && s.text[s.pos] == '#' {
		s.pos += length(s.text[s.pos:], isTextByte)
	}
}

func (s *scanner) lineEnds() bool {
	return s.pos == len(s.text) || s.text[s.pos] == '\n'
}

// indent begins or ends blocks ahead of the first token of a line that begins with so many spaces.
func (s *scanner) indent(spaces int) error {
	if spaces > s.block() {
		if len(s.blocks) > api.MaxDeep {
			return fault(s.pos)
		}
		s.blocks = append(s.blocks, spaces)
		s.add(api.TIndent, "", 0)
		return nil
	}
	s.dedent(spaces)
	if spaces != s.block() {
		return fault(s.pos)
	}
	return nil
}

// dedent ends the blocks that have more than so many spaces.
func (s *scanner) dedent(spaces int) {
	for spaces < s.block() {
		s.blocks = s.blocks[:len(s.blocks)-1]
		s.add(api.TDedent, "", 0)
	}
}

// block is the spaces of the innermost block.
func (s *scanner) block() int {
	return s.blocks[len(s.blocks)-1]
}

// add lays down a token that begins here and has n bytes, and goes on behind it.
func (s *scanner) add(kind int, text string, n int) {
	s.tokens = append(s.tokens, api.Token{Kind: kind, Text: text, Pos: s.pos})
	s.pos += n
}

// token reads the token that begins here.
func (s *scanner) token() error {
	b := s.text[s.pos]
	switch {
	case isLetter(b):
		s.name()
		return nil
	case isDigit(b):
		return s.number()
	case b == '"' || b == '\'':
		return s.quoted()
	}
	return s.sign()
}

// name reads a name or a word.
func (s *scanner) name() {
	rest := s.text[s.pos:]
	name := rest[:length(rest, isNameByte)]
	kind := api.TName
	if isWord(name) {
		kind = api.TSign
	}
	s.add(kind, name, len(name))
}

// number reads a number and what it goes on with, if that is of a name: then it is none.
func (s *scanner) number() error {
	rest := s.text[s.pos:]
	n := length(rest, isDigit)
	if n > api.MaxDigits || n > 1 && rest[0] == '0' || length(rest[n:], isLetter) > 0 {
		return fault(s.pos)
	}
	s.add(api.TInt, rest[:n], n)
	return nil
}

// quoted reads a string.
func (s *scanner) quoted() error {
	first := s.pos + 1
	n, ok := closed(s.text[first:], s.text[s.pos])
	if !ok {
		return fault(s.pos)
	}
	said, read := unquote(s.text[first : first+n])
	if read < n {
		return fault(first + read)
	}
	s.add(api.TStr, said, n+len(`""`))
	return nil
}

// sign reads a sign.
func (s *scanner) sign() error {
	sign := signOf(s.text[s.pos:])
	if sign == "" || !s.bracket(sign[0]) {
		return fault(s.pos)
	}
	s.add(api.TSign, sign, len(sign))
	return nil
}

// signOf is the longest sign with which rest begins; empty, if there is none.
func signOf(rest string) string {
	if len(rest) > 1 {
		switch rest[:2] {
		case "==", "!=", "<=", ">=", "+=", "//":
			return rest[:2]
		}
	}
	if strings.IndexByte(oneByteSigns, rest[0]) >= 0 {
		return rest[:1]
	}
	return ""
}

// bracket opens or closes a bracket, if b is one, and tells whether it may stand here. What is none may.
func (s *scanner) bracket(b byte) bool {
	if i := strings.IndexByte(opening, b); i >= 0 {
		s.open = append(s.open, closing[i])
		return len(s.open) <= api.MaxDeep
	}
	if strings.IndexByte(closing, b) < 0 {
		return true
	}
	last := len(s.open) - 1
	if last < 0 || s.open[last] != b {
		return false
	}
	s.open = s.open[:last]
	return true
}
