package lex

const hexDigits = "0123456789abcdef"

// Quote is the string with `"` that says s.
func Quote(s string) string {
	q := make([]byte, 0, len(s)+len(`""`))
	q = append(q, '"')
	for i := range len(s) {
		q = appendPiece(q, s[i])
	}
	return string(append(q, '"'))
}

// appendPiece lays the piece that says b behind q.
func appendPiece(q []byte, b byte) []byte {
	switch {
	case b == '\n':
		return append(q, '\\', 'n')
	case b == '\t':
		return append(q, '\\', 't')
	case b == '\\' || b == '"':
		return append(q, '\\', b)
	case !isTextByte(b):
		return append(q, '\\', 'x', hexDigits[b>>4], hexDigits[b&15])
	}
	return append(q, b)
}

// closed is how many bytes of rest stand ahead of the quote that ends a string, if one does on this line.
// It comes ahead of looking at the pieces: whether a string ends at all does not hang on what they are.
func closed(rest string, quote byte) (int, bool) {
	held := false // by the `\` ahead of it
	for i := range len(rest) {
		switch b := rest[i]; {
		case b == '\n':
			return 0, false
		case held:
			held = false
		case b == '\\':
			held = true
		case b == quote:
			return i, true
		}
	}
	return 0, false
}

// unquote is the bytes that pieces say, and how many bytes of them it has read: up to the first that is no piece.
func unquote(pieces string) (string, int) {
	said := make([]byte, 0, len(pieces))
	for i := 0; i < len(pieces); {
		b, n := pieceOf(pieces[i:])
		if n == 0 {
			return "", i
		}
		said = append(said, b)
		i += n
	}
	return string(said), len(pieces)
}

// pieceOf is the byte that the piece with which rest begins says, and how many bytes it has: none, if there is no such piece.
func pieceOf(rest string) (byte, int) {
	if b := rest[0]; b != '\\' {
		if !isTextByte(b) {
			return 0, 0
		}
		return b, 1
	}
	switch rest[:min(2, len(rest))] {
	case `\n`:
		return '\n', 2
	case `\t`:
		return '\t', 2
	case `\\`, `\"`, `\'`:
		return rest[1], 2
	case `\x`:
		return hexPiece(rest)
	}
	return 0, 0
}

// hexPiece is likewise of a rest that begins with `\x`.
func hexPiece(rest string) (byte, int) {
	const size = len(`\x00`)
	if len(rest) < size {
		return 0, 0
	}
	high, isHigh := hexDigit(rest[size-2])
	low, isLow := hexDigit(rest[size-1])
	if !isHigh || !isLow {
		return 0, 0
	}
	return high<<4 | low, size
}

func hexDigit(b byte) (byte, bool) {
	switch {
	case '0' <= b && b <= '9':
		return b - '0', true
	case 'a' <= b && b <= 'f':
		return b - 'a' + 10, true
	case 'A' <= b && b <= 'F':
		return b - 'A' + 10, true
	}
	return 0, false
}
