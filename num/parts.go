package num

import "cmp"

const (
	partDigits = 9             // of one part
	base       = 1_000_000_000 // a part is less: nine digits, so that texts need no division, and two parts' product fits in a uint64
)

// trimmed is parts without the ones at the end that are 0.
func trimmed(parts []uint32) []uint32 {
	for len(parts) > 0 && parts[len(parts)-1] == 0 {
		parts = parts[:len(parts)-1]
	}
	return parts
}

// compare is -1, 0 or 1: a is less than b, equal to it, greater; both are trimmed.
func compare(a, b []uint32) int {
	if len(a) != len(b) {
		return cmp.Compare(len(a), len(b))
	}
	for i := len(a) - 1; i >= 0; i-- {
		if a[i] != b[i] {
			return cmp.Compare(a[i], b[i])
		}
	}
	return 0
}

// sum is a and b.
func sum(a, b []uint32) []uint32 {
	if len(a) < len(b) {
		a, b = b, a
	}
	total := make([]uint32, len(a)+1)
	var carry uint32
	for i, part := range a {
		part += carry
		if i < len(b) {
			part += b[i]
		}
		total[i], carry = part%base, part/base
	}
	total[len(a)] = carry
	return total
}

// difference is a without b, which is not greater.
func difference(a, b []uint32) []uint32 {
	rest := make([]uint32, len(a))
	var lent uint32
	for i, part := range a {
		away := lent
		if i < len(b) {
			away += b[i]
		}
		lent = 0
		if part < away {
			part += base
			lent = 1
		}
		rest[i] = part - away
	}
	return rest
}

// product is a times b, in as many parts as both have.
func product(a, b []uint32) []uint32 {
	total := make([]uint32, len(a)+len(b))
	for i, x := range a {
		var carry uint64
		for k, y := range b {
			part := uint64(total[i+k]) + uint64(x)*uint64(y) + carry
			total[i+k], carry = uint32(part%base), part/base
		}
		total[i+len(b)] = uint32(carry)
	}
	return total
}
