package num

import (
	"slices"
	"strconv"
	"strings"

	"smithy/api"
)

// mostDigits is how many digits a text that is parsed may have.
const mostDigits = 4 * api.MaxDigits

// Parse is the number that s says: api.ErrShape, if s is no number's text; api.ErrLimit, if it has too many digits.
func Parse(s string) (Num, error) {
	digits, minus := strings.CutPrefix(s, "-")
	if !written(digits) || minus && digits == "0" {
		return Num{}, api.ErrShape
	}
	if len(digits) > mostDigits {
		return Num{}, api.ErrLimit
	}
	return made(minus, read(digits)), nil
}

// written tells whether digits are those of a number as it is written: 0, or what begins with another digit.
func written(digits string) bool {
	for i := range len(digits) {
		if digits[i] < '0' || digits[i] > '9' {
			return false
		}
	}
	return digits == "0" || digits != "" && digits[0] != '0'
}

// read is the parts of the number that has these digits.
func read(digits string) []uint32 {
	var parts []uint32
	for end := len(digits); end > 0; end -= partDigits {
		var part uint32
		for i := max(0, end-partDigits); i < end; i++ {
			part = part*10 + uint32(digits[i]-'0')
		}
		parts = append(parts, part)
	}
	return parts
}

// Text is the text that Parse reads as a.
func (a Num) Text() string {
	if len(a.parts) == 0 {
		return "0"
	}
	text := make([]byte, 0, 1+partDigits*len(a.parts))
	if a.minus {
		text = append(text, '-')
	}
	last := len(a.parts) - 1
	text = strconv.AppendUint(text, uint64(a.parts[last]), 10)
	for _, part := range slices.Backward(a.parts[:last]) {
		text = appendPart(text, part)
	}
	return string(text)
}

// appendPart writes all digits of a part behind text, those too with which it leads with 0.
func appendPart(text []byte, part uint32) []byte {
	for unit := uint32(base / 10); unit > 0; unit /= 10 {
		text = append(text, byte('0'+part/unit%10))
	}
	return text
}

// Digits is how many digits a has; 0 has one.
func (a Num) Digits() int {
	if len(a.parts) == 0 {
		return 1
	}
	last := len(a.parts) - 1
	count := partDigits * last
	for part := a.parts[last]; part > 0; part /= 10 {
		count++
	}
	return count
}
