package num

// divided is how many times a has b, which is not 0, and what is left; both are trimmed.
func divided(a, b []uint32) (quotient, rest []uint32) {
	if compare(a, b) < 0 {
		return nil, a
	}
	if len(b) == 1 {
		quotient, left := dividedShort(a, b[0])
		return quotient, []uint32{left}
	}
	return dividedLong(a, b)
}

// dividedShort is how many times a has b, one part that is not 0, and what is left.
func dividedShort(a []uint32, b uint32) (quotient []uint32, left uint32) {
	quotient = make([]uint32, len(a))
	for i := len(a) - 1; i >= 0; i-- {
		part := uint64(left)*base + uint64(a[i])
		quotient[i], left = uint32(part/uint64(b)), uint32(part%uint64(b))
	}
	return quotient, left
}

// dividedLong is how many times a has b, of two parts or more, and what is left; a is not less.
//
// Both are scaled, which leaves the quotient as it is: b's last part is then at least half the base, and the guess of a part of the quotient is hardly ever wrong.
func dividedLong(a, b []uint32) (quotient, rest []uint32) {
	scale := base / (b[len(b)-1] + 1)
	rest = product(a, []uint32{scale})
	b = trimmed(product(b, []uint32{scale}))
	quotient = make([]uint32, len(a)-len(b)+1)
	for i := len(quotient) - 1; i >= 0; i-- {
		window := rest[i : i+len(b)+1]
		part := guess(window, b)
		if takeAway(window, b, part) {
			part--
			putBack(window, b)
		}
		quotient[i] = uint32(part)
	}
	rest, _ = dividedShort(rest[:len(b)], scale)
	return quotient, rest
}

// guess is how many times window has b, by the last parts of both alone: it is right, or too great by 1.
// The window has one part more than b, and is less than base times b.
func guess(window, b []uint32) uint64 {
	n := len(b)
	last, second := uint64(b[n-1]), uint64(b[n-2])
	head := uint64(window[n])*base + uint64(window[n-1])
	part := min(head/last, base-1)
	left := head - part*last
	for part*second > left*base+uint64(window[n-2]) {
		part--
		left += last
	}
	return part
}

// takeAway takes b, that many times, away from window, and tells whether that was more than it has: then it lacks once b.
// What is left is less than b: the window's last part is no part of it, and stays as it was.
func takeAway(window, b []uint32, times uint64) (lacks bool) {
	var carry uint64
	for i, part := range b {
		carry += uint64(part) * times
		away := uint32(carry % base)
		carry /= base
		if window[i] < away {
			window[i] += base
			carry++
		}
		window[i] -= away
	}
	return uint64(window[len(b)]) < carry
}

// putBack adds b to window; what is carried out of it is what takeAway took too much.
func putBack(window, b []uint32) {
	var carry uint32
	for i, part := range b {
		part += window[i] + carry
		window[i], carry = part%base, part/base
	}
}
