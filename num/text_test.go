package num_test

import (
	"math"
	"math/big"
	"strconv"
	"strings"
	"testing"

	"smithy/api"
	"smithy/num"
)

// P9.1: what is parsed says the same text again, and has as many digits as were written.
func TestParse(t *testing.T) {
	for _, s := range []string{
		"0", "1", "-1", "7", "9", "-9", "10", "-10", "90", "99", "100", "-100", "101", "1234567890",
		"99999999", "100000000", "999999999", "1000000000", "1000000001", "-1000000000", "1999999999", "9999999999",
		"4294967295", "4294967296", "18446744073709551615", "18446744073709551616", "-18446744073709551616",
		"100000000000000000", "999999999999999999", "1000000000000000000", "1000000000000000001", "1000000001000000000",
		"123456789012345678901234567890", "-900000000800000000700000000600000000",
	} {
		n, err := num.Parse(s)
		if err != nil {
			t.Errorf("%s: %v", s, err)
			continue
		}
		says(t, s, n, s)
		if digits := len(strings.TrimPrefix(s, "-")); n.Digits() != digits {
			t.Errorf("%s: %d digits", s, n.Digits())
		}
	}
}

// P9.1: each length, with noughts and nines at every place.
func TestParseLengths(t *testing.T) {
	for n := range 70 {
		for _, s := range []string{power(n), nines(n + 1), "5" + strings.Repeat("05", n), "1" + strings.Repeat("0", n) + "1"} {
			for _, s := range []string{s, "-" + s} {
				a := parsed(t, s)
				says(t, s, a, s)
				if digits := len(strings.TrimPrefix(s, "-")); a.Digits() != digits {
					t.Errorf("%s: %d digits", s, a.Digits())
				}
			}
		}
	}
}

// shapeless holds that a text is no number's.
func shapeless(t *testing.T, s string) {
	t.Helper()
	n, err := num.Parse(s)
	if err != api.ErrShape {
		t.Errorf("%q: %v, want %v", short(s), err, api.ErrShape)
	}
	says(t, "beside an error", n, "0")
}

// P9.1: what is not `-` or not, then 0 or digits from 1 on, is ErrShape; nothing stands beside it.
func TestParseShape(t *testing.T) {
	for _, s := range []string{
		"", "-", "--", "-0", "00", "01", "000", "-00", "-01", "0-", "0-1", "--1", "--0", "-+1", "+-1", "+1", "+0", "+", "1-", "1+", "1-1", "1+1", "-1-", "-1-1",
		" ", " 1", "1 ", "1 1", "- 1", " -1", "-1 ", "\t1", "1\n", "\n", "1\r", "1_000", "1,000", "1.0", ".1", "1.", "1e3", "1E3", "0x1", "0b1", "0o1", "0a", "a", "a1", "1a", "1a1", "1/1", "1:1", "/", ":", "12:", "12/", "-/", "-:",
		"1\x00", "\x001", "\x00", "1\x80", "\xff", "1\xff1", "\xc2\xb2", "1\xc2\xb2", "\u0661", "1\u0661", "\uff11", "1\uff11", "\u22121", "\u00bd", "\xb1", "\xb0",
		"None", "True", "inf", "nan", "'1'", "(1)", "1L",
		"12345678901234567890x", "x12345678901234567890", "1234567890123456789 1234567890", "0123456789012345678901234567890", "-0123456789012345678901234567890",
	} {
		shapeless(t, s)
	}
}

// P9.1: of each byte, alone and within digits, just the ASCII digits are digits.
func TestParseBytes(t *testing.T) {
	for c := range 256 {
		b := string([]byte{byte(c)})
		digit := c >= '0' && c <= '9'
		for i, s := range []string{b, "1" + b, "1" + b + "1", "-" + b, "-1" + b, "9876543210" + b, b + "1", "10" + b + "0000000001"} {
			n, err := num.Parse(s)
			is := digit
			switch i {
			case 3:
				is = digit && c != '0'
			case 6:
				is = digit && c != '0' || c == '-'
			}
			if !is {
				shapeless(t, s)
			} else if err != nil || n.Text() != s {
				t.Errorf("%q: %s %v", s, n.Text(), err)
			}
		}
	}
}

// P9.1: as many as 4 times MaxDigits digits, and a sign ahead of them, are a number; one digit more is ErrLimit.
func TestParseLimit(t *testing.T) {
	const most = 4 * api.MaxDigits
	for _, s := range []string{nines(most - 1), nines(most), power(most - 1), strings.Repeat("1234567890", most/10)} {
		for _, s := range []string{s, "-" + s} {
			n := parsed(t, s)
			says(t, s, n, s)
			if digits := len(strings.TrimPrefix(s, "-")); n.Digits() != digits {
				t.Errorf("%d digits, want %d", n.Digits(), digits)
			}
		}
	}
	for _, s := range []string{nines(most + 1), power(most), "-" + nines(most+1), "-" + power(most), strings.Repeat("1", most+2), nines(3 * most), "-" + nines(100*most)} {
		n, err := num.Parse(s)
		if err != api.ErrLimit {
			t.Errorf("%d bytes: %v, want %v", len(s), err, api.ErrLimit)
		}
		says(t, "beside an error", n, "0")
	}
}

// P9.1: a text that is too long and of no such shape is ErrShape, wherever it is wrong, as that is named first.
func TestParseShapeAheadOfLimit(t *testing.T) {
	const most = 4 * api.MaxDigits
	for _, s := range []string{
		nines(most+1) + "x", "x" + nines(most+1), nines(most) + " " + nines(most), "0" + nines(most), "0" + nines(most+1), "-0" + nines(most+1),
		"+" + nines(most+1), "--" + nines(most+1), nines(most+1) + "-", strings.Repeat("0", most+1), "-" + strings.Repeat("0", most+1), strings.Repeat("-", most+2), strings.Repeat("x", 2*most), strings.Repeat("1", most) + "\xb1", nines(most+1) + ".0",
	} {
		shapeless(t, s)
	}
}

// P9.1: Digits counts digits alone, and 0 has one.
func TestDigits(t *testing.T) {
	for _, x := range []struct {
		n    int64
		want int
	}{
		{0, 1}, {1, 1}, {-1, 1}, {9, 1}, {-9, 1}, {10, 2}, {-10, 2}, {99, 2}, {100, 3}, {99999999, 8}, {100000000, 9}, {999999999, 9}, {1000000000, 10}, {-1000000000, 10},
		{999999999999999999, 18}, {1000000000000000000, 19}, {math.MaxInt64, 19}, {math.MinInt64, 19},
	} {
		if got := num.Of(x.n).Digits(); got != x.want {
			t.Errorf("%d: %d digits, want %d", x.n, got, x.want)
		}
	}
	for _, n := range []int{300, api.MaxDigits - 1, api.MaxDigits, api.MaxDigits + 1, 2 * api.MaxDigits} {
		if a := parsed(t, nines(n)); a.Digits() != n || a.Neg().Digits() != n || a.Add(num.Of(1)).Digits() != n+1 || a.Mul(a).Digits() != 2*n {
			t.Errorf("%d nines: %d digits", n, a.Digits())
		}
		if a := parsed(t, power(n)); a.Digits() != n+1 || a.Sub(num.Of(1)).Digits() != n || a.Sub(a).Digits() != 1 || a.Neg().Digits() != n+1 {
			t.Errorf("1 with %d noughts: %d digits", n, a.Digits())
		}
	}
}

// P9.1: numbers that are reckoned, not parsed, are told as well, noughts within them too.
func TestTextOfReckoned(t *testing.T) {
	for n := range 60 {
		a := num.Of(1)
		for range n {
			a = a.Mul(num.Of(10))
		}
		says(t, "a power of 10", a, power(n))
		want := known(t, power(n))
		says(t, "a power of 10 and 1", a.Add(num.Of(1)), new(big.Int).Add(want, big.NewInt(1)).String())
		says(t, "a power of 10 without 1", a.Sub(num.Of(1)), new(big.Int).Sub(want, big.NewInt(1)).String())
	}
	for _, n := range []int64{0, 5, -5, 90, 1000000005, -2000000000} {
		says(t, "a number", num.Of(n), strconv.FormatInt(n, 10))
	}
}
