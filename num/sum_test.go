package num_test

import (
	"math"
	"strings"
	"testing"

	"smithy/num"
)

// P9.1: sums, differences and products that can be seen at once.
func TestReckon(t *testing.T) {
	for _, x := range []struct{ a, b, sum, difference, product string }{
		{"0", "0", "0", "0", "0"},
		{"0", "5", "5", "-5", "0"},
		{"5", "0", "5", "5", "0"},
		{"0", "-5", "-5", "5", "0"},
		{"-5", "0", "-5", "-5", "0"},
		{"2", "3", "5", "-1", "6"},
		{"-2", "3", "1", "-5", "-6"},
		{"2", "-3", "-1", "5", "-6"},
		{"-2", "-3", "-5", "1", "6"},
		{"3", "3", "6", "0", "9"},
		{"-3", "-3", "-6", "0", "9"},
		{"3", "-3", "0", "6", "-9"},
		{"1", "999999999", "1000000000", "-999999998", "999999999"},
		{"999999999", "999999999", "1999999998", "0", "999999998000000001"},
		{"1000000000", "1000000000", "2000000000", "0", "1000000000000000000"},
		{"1000000000", "-1", "999999999", "1000000001", "-1000000000"},
		{"1000000000000000000", "1", "1000000000000000001", "999999999999999999", "1000000000000000000"},
		{"-1000000000000000000", "1", "-999999999999999999", "-1000000000000000001", "-1000000000000000000"},
		{"999999999999999999", "1", "1000000000000000000", "999999999999999998", "999999999999999999"},
		{"9223372036854775807", "9223372036854775807", "18446744073709551614", "0", "85070591730234615847396907784232501249"},
		{"-9223372036854775808", "-9223372036854775808", "-18446744073709551616", "0", "85070591730234615865843651857942052864"},
		{"18446744073709551615", "1", "18446744073709551616", "18446744073709551614", "18446744073709551615"},
		{"18446744073709551616", "18446744073709551616", "36893488147419103232", "0", "340282366920938463463374607431768211456"},
		{"123456789", "987654321987654321", "987654322111111110", "-987654321864197532", "121932631234567900112635269"},
		{"12345678901234567890", "98765432109876543210", "111111111011111111100", "-86419753208641975320", "1219326311370217952237463801111263526900"},
	} {
		a, b := parsed(t, x.a), parsed(t, x.b)
		says(t, x.a+" + "+x.b, a.Add(b), x.sum)
		says(t, x.b+" + "+x.a, b.Add(a), x.sum)
		says(t, x.a+" - "+x.b, a.Sub(b), x.difference)
		says(t, x.b+" - "+x.a, b.Sub(a), negative(x.difference))
		says(t, x.a+" * "+x.b, a.Mul(b), x.product)
		says(t, x.b+" * "+x.a, b.Mul(a), x.product)
		says(t, "-"+x.a, a.Neg(), negative(x.a))
		says(t, "-(-"+x.a+")", a.Neg().Neg(), x.a)
	}
}

// P9.1: a carry, or a borrow, runs through all digits, of each length, and stops where it has to.
func TestCarry(t *testing.T) {
	one := num.Of(1)
	for n := 1; n <= 100; n++ {
		most, next := parsed(t, nines(n)), parsed(t, power(n))
		says(t, "nines + 1", most.Add(one), power(n))
		says(t, "1 + nines", one.Add(most), power(n))
		says(t, "a power - 1", next.Sub(one), nines(n))
		says(t, "1 - a power", one.Sub(next), "-"+nines(n))
		says(t, "-nines - 1", most.Neg().Sub(one), "-"+power(n))
		says(t, "-a power + 1", next.Neg().Add(one), "-"+nines(n))
		says(t, "a power - nines", next.Sub(most), "1")
		says(t, "nines - a power", most.Sub(next), "-1")
		says(t, "nines + nines", most.Add(most), "1"+nines(n-1)+"8")
		says(t, "a power + nines", next.Add(most), "1"+nines(n))
		says(t, "nines * nines", most.Mul(most), nines(n-1)+"8"+strings.Repeat("0", n-1)+"1")
		says(t, "a power * a power", next.Mul(next), power(2*n))
		says(t, "nines * a power", most.Mul(next), nines(n)+strings.Repeat("0", n))
		stops := parsed(t, "4"+nines(n))
		says(t, "4 and nines + 1", stops.Add(one), "5"+strings.Repeat("0", n))
		says(t, "5 and noughts - 1", stops.Add(one).Sub(one), "4"+nines(n))
		behind := parsed(t, nines(n)+"000000000")
		says(t, "nines, noughts + 1", behind.Add(one), nines(n)+"000000001")
		says(t, "nines, noughts - 1", behind.Sub(one), parsed(t, nines(n)).Sub(one).Text()+"999999999")
	}
}

// P9.1: a shorter and a longer number, with each pair of signs.
func TestLengths(t *testing.T) {
	numbers := []string{"0", "1", "8", "999999999", "1000000000", "1000000001", "999999999999999999", "1000000000000000000", "123456789000000000987654321", power(40), nines(63), "5" + strings.Repeat("0", 80) + "5", "31415926535897932384626433832795028841971693993751058209749445923"}
	for _, s := range numbers {
		for _, u := range numbers {
			holdsSigned(t, s, u)
		}
	}
}

// P9.1: numbers of hundreds of digits and more; nothing bounds what they come to.
func TestLong(t *testing.T) {
	numbers := []string{"7", "1000000007", nines(200), power(300), strings.Repeat("1234567890", 60), strings.Repeat("9876543210", 61), "1" + strings.Repeat("000000001", 100), nines(2400), strings.Repeat("314159265358979323846264", 100)}
	for _, s := range numbers {
		for _, u := range numbers {
			holdsSigned(t, s, u)
		}
	}
	eighth := parsed(t, nines(2400))
	for range 3 {
		eighth = eighth.Mul(eighth)
	}
	says(t, "nines, eight times", eighth, known(t, nines(2400)).Exp(known(t, nines(2400)), known(t, "8"), nil).String())
}

// P9.1: well beyond 64 bits, step by step: factorials, powers of two and Fibonacci's numbers.
func TestRows(t *testing.T) {
	factorial, two := num.Of(1), num.Of(1)
	before, last := num.Of(0), num.Of(1)
	want, bit, low, high := known(t, "1"), known(t, "1"), known(t, "0"), known(t, "1")
	for i := range int64(300) {
		factorial, two = factorial.Mul(num.Of(-i-1)), two.Add(two)
		before, last = last, before.Add(last)
		want.Mul(want, known(t, num.Of(-i-1).Text()))
		bit.Lsh(bit, 1)
		low.Add(low, high)
		low, high = high, low
		says(t, "a factorial", factorial, want.String())
		says(t, "a power of two", two, bit.String())
		says(t, "one of Fibonacci's", last, high.String())
	}
	for i := int64(300); i > 0; i-- {
		less, is := factorial.Div(num.Of(-i))
		half, also := two.Div(num.Of(2))
		if !is || !also || less.Mul(num.Of(-i)).Cmp(factorial) != 0 || half.Add(half).Cmp(two) != 0 {
			t.Fatal(i, less.Text(), half.Text())
		}
		factorial, two, before, last = less, half, last.Sub(before), before
	}
	says(t, "a factorial, divided again", factorial, "1")
	says(t, "a power of two, halved again", two, "1")
	says(t, "Fibonacci's, back again", last, "1")
}

// P9.1, P0.3: the zero value is 0 in each call, on each side.
func TestZero(t *testing.T) {
	var zero num.Num
	says(t, "Text", zero, "0")
	says(t, "Neg", zero.Neg(), "0")
	if n, is := zero.Int(); n != 0 || !is {
		t.Error("Int:", n, is)
	}
	if zero.Digits() != 1 || zero.Cmp(zero) != 0 || zero.Cmp(num.Of(0)) != 0 || num.Of(0).Cmp(zero) != 0 {
		t.Error("it is not 0")
	}
	for _, n := range []int64{0, 1, -1, 9, 1000000000, math.MaxInt64, math.MinInt64} {
		a := num.Of(n)
		says(t, "0 + a", zero.Add(a), a.Text())
		says(t, "a + 0", a.Add(zero), a.Text())
		says(t, "0 - a", zero.Sub(a), negative(a.Text()))
		says(t, "a - 0", a.Sub(zero), a.Text())
		says(t, "0 * a", zero.Mul(a), "0")
		says(t, "a * 0", a.Mul(zero), "0")
		quotient, is := a.Div(zero)
		isNothing(t, "a / 0", quotient, is)
		rest, is := a.Mod(zero)
		isNothing(t, "a % 0", rest, is)
		if quotient, is = zero.Div(a); is != (n != 0) || quotient.Text() != "0" {
			t.Error("0 /", n, quotient.Text(), is)
		}
		if rest, is = zero.Mod(a); is != (n != 0) || rest.Text() != "0" {
			t.Error("0 %", n, rest.Text(), is)
		}
	}
}
