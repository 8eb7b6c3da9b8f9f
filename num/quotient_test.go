package num_test

import (
	"strings"
	"testing"

	"smithy/num"
)

// P9.1: the document's examples, and each pair of signs, where nothing is left and where something is.
func TestDivide(t *testing.T) {
	for _, x := range []struct{ a, b, quotient, rest string }{
		{"-7", "2", "-4", "1"},
		{"7", "-2", "-4", "-1"},
		{"7", "2", "3", "1"},
		{"-7", "-2", "3", "-1"},
		{"6", "2", "3", "0"},
		{"-6", "2", "-3", "0"},
		{"6", "-2", "-3", "0"},
		{"-6", "-2", "3", "0"},
		{"1", "5", "0", "1"},
		{"-1", "5", "-1", "4"},
		{"1", "-5", "-1", "-4"},
		{"-1", "-5", "0", "-1"},
		{"0", "5", "0", "0"},
		{"0", "-5", "0", "0"},
		{"4", "5", "0", "4"},
		{"-4", "5", "-1", "1"},
		{"4", "-5", "-1", "-1"},
		{"-4", "-5", "0", "-4"},
		{"5", "5", "1", "0"},
		{"-5", "5", "-1", "0"},
		{"1000000000", "999999999", "1", "1"},
		{"-1000000000", "999999999", "-2", "999999998"},
		{"999999999", "1000000000", "0", "999999999"},
		{"-999999999", "1000000000", "-1", "1"},
		{"1000000000000000000", "1000000000", "1000000000", "0"},
		{"-1000000000000000000", "1000000000", "-1000000000", "0"},
		{"-1000000000000000001", "1000000000", "-1000000001", "999999999"},
		{"999999999999999999", "1000000000", "999999999", "999999999"},
		{"-999999999999999999", "1000000000", "-1000000000", "1"},
		{"100000000000000000000", "-3", "-33333333333333333334", "-2"},
		{"-100000000000000000000", "7", "-14285714285714285715", "5"},
	} {
		a, b := parsed(t, x.a), parsed(t, x.b)
		quotient, is := a.Div(b)
		rest, also := a.Mod(b)
		if !is || !also {
			t.Errorf("%s by %s: %v %v", x.a, x.b, is, also)
		}
		says(t, x.a+" / "+x.b, quotient, x.quotient)
		says(t, x.a+" % "+x.b, rest, x.rest)
	}
}

// P9.1: every small number by every small one, and these with parts of noughts behind them.
func TestDivideSmall(t *testing.T) {
	for a := int64(-20); a <= 20; a++ {
		for b := int64(-20); b <= 20; b++ {
			divides(t, num.Of(a).Text(), num.Of(b).Text())
			divides(t, num.Of(a*1000000000).Text(), num.Of(b*1000000000).Text())
			divides(t, num.Of(a*1000000000+b).Text(), num.Of(b).Text())
			divides(t, num.Of(a*1000000000).Text(), num.Of(b*1000000000+a).Text())
		}
	}
}

// P9.1: by 1, by -1, by itself, by its negative, by one more and one less, by 0.
func TestDivideEdges(t *testing.T) {
	for _, s := range []string{"1", "2", "9", "10", "999999999", "1000000000", "1000000001", "999999999999999999", "1000000000000000000", "1000000000000000001", nines(300), power(300), strings.Repeat("1234567890", 50), "5" + strings.Repeat("000000000", 30)} {
		for _, s := range []string{s, "-" + s} {
			a, one := parsed(t, s), num.Of(1)
			for _, x := range []struct {
				b              num.Num
				quotient, rest string
			}{{one, s, "0"}, {one.Neg(), negative(s), "0"}, {a, "1", "0"}, {a.Neg(), "-1", "0"}} {
				quotient, is := a.Div(x.b)
				rest, also := a.Mod(x.b)
				if !is || !also {
					t.Errorf("%s by %s: %v %v", short(s), short(x.b.Text()), is, also)
				}
				says(t, "quotient of "+s, quotient, x.quotient)
				says(t, "rest of "+s, rest, x.rest)
			}
			for _, b := range []num.Num{one, one.Neg(), a, a.Neg(), a.Add(one), a.Sub(one), a.Neg().Add(one), a.Neg().Sub(one), a.Add(a), a.Mul(a), a.Mul(a).Neg()} {
				divides(t, s, b.Text())
				divides(t, b.Text(), s)
			}
			divides(t, s, "0")
		}
	}
}

// P9.1: numbers of hundreds of digits by short ones and by long ones.
func TestDivideLong(t *testing.T) {
	for _, s := range []string{strings.Repeat("7", 600), nines(500), power(599), strings.Repeat("1234567890", 60), "9" + strings.Repeat("0", 400) + "9"} {
		for _, u := range []string{
			"2", "3", "10", "7", "999999999", "1000000000", "1000000001", "4294967296", "999999999999999999", "1000000000000000000", "1000000000000000001", power(27), "1" + strings.Repeat("0", 30) + "1",
			nines(100), power(150), strings.Repeat("98765432", 30), strings.Repeat("5", 299), nines(499), nines(500), power(499), power(500), strings.Repeat("7", 599), strings.Repeat("7", 600), strings.Repeat("6", 600), strings.Repeat("8", 600), power(599), power(600),
		} {
			for _, s := range []string{s, "-" + s} {
				divides(t, s, u)
				divides(t, s, negative(u))
			}
		}
	}
}

// P9.1: a part of the quotient that is guessed too great, by the parts at the ends alone: once, twice, as the greatest part that there is, and where all of it has to be taken back again.
func TestDivideGuesses(t *testing.T) {
	for _, x := range [][2]string{
		{"999999999000000000999999998", "999999999333333333"},
		{"2500000000999999998", "500000000499999999"},
		{"500000000333333333000000000500000000", "500000000499999999000000000"},
		{"999999998999999998000000000999999998", "999999998999999999"},
		{"1999999999000000001499999999", "999999999999999999"},
		{"500000000500000000999999999000000001500000001", "500000000500000001"},
		{"999999999500000000000000002499999999000000000", "500000000999999998"},
		{"499999999500000001333333333000000001", "500000001999999998"},
		{"500000000333333333000000001333333333", "500000001999999998"},
		{"499999999499999999000000002000000002000000000", "999999998999999998999999999"},
		{"2000000000999999998000000002000000002", "333333333499999999999999998"},
		{"333333333499999999000000001500000001", "999999998500000000333333333"},
		{"999999999000000001000000000", "499999999500000000500000001"},
	} {
		for _, behind := range []string{"", "000000000", "999999999", strings.Repeat("000000000", 20), strings.Repeat("500000000999999999", 10)} {
			for _, a := range []string{x[0] + behind, "-" + x[0] + behind} {
				divides(t, a, x[1])
				divides(t, a, negative(x[1]))
				divides(t, a, x[1]+behind)
			}
		}
	}
}

// P9.1: products, and what lies one beside them, give their factors back.
func TestDivideProducts(t *testing.T) {
	factors := []string{"1", "3", "999999999", "1000000000", "500000000", "499999999", "999999999999999999", "1000000000000000000", "500000000000000000", "499999999999999999999999999", "999999999000000000", "999999999000000001", "1000000000999999999", "500000000999999999999999999", nines(99), power(99), strings.Repeat("500000000", 20), strings.Repeat("999999999000000000", 15)}
	for _, s := range factors {
		for _, u := range factors {
			whole := parsed(t, s).Mul(parsed(t, u))
			for d := int64(-1); d <= 1; d++ {
				beside := whole.Add(num.Of(d))
				divides(t, beside.Text(), u)
				divides(t, beside.Neg().Text(), u)
				divides(t, beside.Text(), negative(u))
			}
			if quotient, is := whole.Div(parsed(t, u)); !is || quotient.Text() != s {
				t.Errorf("%s * %s / %s: %s %v", short(s), short(u), short(u), short(quotient.Text()), is)
			}
		}
	}
}
