package num_test

import (
	"math"
	"strconv"
	"testing"

	"smithy/num"
)

// P9.1: Of and Int of each number's one and the other, at the edges of an int64 and within.
func TestOf(t *testing.T) {
	numbers := []int64{0, 1, -1, 2, 9, 10, -10, 999999998, 999999999, 1000000000, -999999999, -1000000000, -1000000001, math.MaxInt32, math.MinInt32, math.MaxUint32, math.MaxUint32 + 1,
		999999999999999999, 1000000000000000000, 1000000000000000001, -1000000000000000000, 9000000000000000000, -9000000000000000000, 1000000001, 123456789123456789}
	for i := range int64(40) {
		numbers = append(numbers, math.MaxInt64-i, math.MinInt64+i)
	}
	for i := range 63 {
		numbers = append(numbers, 1<<i, -1<<i, 1<<i-1, 1<<i+1)
	}
	for _, n := range numbers {
		a := num.Of(n)
		says(t, "Of", a, strconv.FormatInt(n, 10))
		if got, is := a.Int(); got != n || !is {
			t.Errorf("%d: %d %v", n, got, is)
		}
		if got, is := parsed(t, strconv.FormatInt(n, 10)).Int(); got != n || !is {
			t.Errorf("%d, parsed: %d %v", n, got, is)
		}
		if a.Cmp(parsed(t, strconv.FormatInt(n, 10))) != 0 {
			t.Errorf("%d is not the one that is parsed", n)
		}
	}
}

// P9.1: what lies beyond an int64 is none, and 0 stands beside the false.
func TestIntBeyond(t *testing.T) {
	for _, s := range []string{
		"9223372036854775808", "-9223372036854775809", "9223372036854775809", "-9223372036854775810", "9999999999999999999", "-9999999999999999999", "10000000000000000000",
		"18446744073709551615", "18446744073709551616", "18446744073709551617", "-18446744073709551615", "-18446744073709551616", "-18446744073709551617", "27670116110564327424", "36893488147419103232",
		"340282366920938463463374607431768211456", "1000000000000000000000000000", "1000000000000000000000000001", "-1000000000000000000000000001", "5000000000000000000000000000000000005", nines(600), "-" + nines(2400), power(600),
	} {
		n, is := parsed(t, s).Int()
		if n != 0 || is {
			t.Errorf("%s: %d %v, want 0 false", short(s), n, is)
		}
	}
}

// P9.1: the edges of an int64 as they are reckoned, from within and from beyond.
func TestIntReckoned(t *testing.T) {
	greatest, least, one := num.Of(math.MaxInt64), num.Of(math.MinInt64), num.Of(1)
	for _, x := range []struct {
		what string
		n    num.Num
		want int64
		is   bool
	}{
		{"greatest + 1", greatest.Add(one), 0, false},
		{"least - 1", least.Sub(one), 0, false},
		{"-least", least.Neg(), 0, false},
		{"-greatest", greatest.Neg(), -math.MaxInt64, true},
		{"-greatest - 1", greatest.Neg().Sub(one), math.MinInt64, true},
		{"-(-least)", least.Neg().Neg(), math.MinInt64, true},
		{"-least - 1", least.Neg().Sub(one), math.MaxInt64, true},
		{"greatest + 1 - 1", greatest.Add(one).Sub(one), math.MaxInt64, true},
		{"least - 1 + 1", least.Sub(one).Add(one), math.MinInt64, true},
		{"greatest + least", greatest.Add(least), -1, true},
		{"greatest * greatest", greatest.Mul(greatest), 0, false},
		{"least * -1", least.Mul(num.Of(-1)), 0, false},
		{"least - least", least.Sub(least), 0, true},
	} {
		if got, is := x.n.Int(); got != x.want || is != x.is {
			t.Errorf("%s: %d %v, want %d %v", x.what, got, is, x.want, x.is)
		}
	}
	if n, is := least.Div(num.Of(-1)); !is || n.Text() != "9223372036854775808" {
		t.Errorf("least / -1: %s %v", n.Text(), is)
	}
	if n, is := least.Mod(num.Of(-1)); !is || n.Text() != "0" {
		t.Errorf("least %% -1: %s %v", n.Text(), is)
	}
}

// P9.1: each of a row against each: by sign, by length, by the digits from the left.
func TestCmp(t *testing.T) {
	row := []string{
		"-" + nines(600), "-" + power(599), "-" + nines(599), "-1000000000000000000", "-999999999999999999", "-999999999000000001", "-999999999000000000", "-1000000002000000000", "-1000000001999999999", "-1000000001", "-1000000000", "-999999999", "-10", "-9", "-2", "-1",
		"0", "1", "2", "9", "10", "99", "100", "999999999", "1000000000", "1000000001", "1999999999", "2000000000", "1000000001999999999", "1000000002000000000", "1000000002000000001", "999999999999999999999999999", "1000000000000000000000000000", "2000000000000000000000000000", nines(599), power(599), nines(600),
	}
	for _, s := range row {
		for _, u := range row {
			want := known(t, s).Cmp(known(t, u))
			if got := parsed(t, s).Cmp(parsed(t, u)); got != want {
				t.Errorf("%s against %s: %d, want %d", short(s), short(u), got, want)
			}
		}
	}
}

// P9.1: numbers come to by other ways are equal, where they are; there is one 0.
func TestCmpReckoned(t *testing.T) {
	a := parsed(t, power(30))
	for what, zero := range map[string]num.Num{
		"a - a": a.Sub(a), "-a + a": a.Neg().Add(a), "a * 0": a.Mul(num.Num{}), "0 * -a": num.Of(0).Mul(a.Neg()), "-0": num.Of(0).Neg(), "0 of no call": {}, "-a - -a": a.Neg().Sub(a.Neg()), "0 parsed": parsed(t, "0"), "-0 of no call": num.Num{}.Neg(),
	} {
		if zero.Cmp(num.Num{}) != 0 || (num.Num{}).Cmp(zero) != 0 || zero.Cmp(num.Of(1)) != -1 || zero.Cmp(num.Of(-1)) != 1 || num.Of(1).Cmp(zero) != 1 || num.Of(-1).Cmp(zero) != -1 {
			t.Errorf("%s is not as 0 is", what)
		}
		says(t, what, zero, "0")
	}
	if b := a.Add(num.Of(1)).Sub(num.Of(1)); a.Cmp(b) != 0 || b.Cmp(a) != 0 || a.Cmp(a) != 0 {
		t.Error("a + 1 - 1 is not a")
	}
	if b := a.Sub(num.Of(1)); a.Cmp(b) != 1 || b.Cmp(a) != -1 || a.Neg().Cmp(b.Neg()) != -1 || b.Neg().Cmp(a.Neg()) != 1 {
		t.Error("a - 1 is not less than a")
	}
}
