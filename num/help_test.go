package num_test

import (
	"math/big"
	"strings"
	"testing"

	"smithy/num"
)

// parsed is the number of a text that has to be one.
func parsed(t *testing.T, s string) num.Num {
	t.Helper()
	n, err := num.Parse(s)
	if err != nil {
		t.Fatalf("%s: %v", short(s), err)
	}
	return n
}

// short is a text as a fault shows it.
func short(s string) string {
	if len(s) > 200 {
		return s[:80] + ".." + s[len(s)-80:]
	}
	return s
}

// says holds a number against the text that it has to have.
func says(t *testing.T, what string, n num.Num, want string) {
	t.Helper()
	if got := n.Text(); got != want {
		t.Errorf("%s: %s, want %s", short(what), short(got), short(want))
	}
}

// isNothing holds what stands beside a false against 0.
func isNothing(t *testing.T, what string, n num.Num, is bool) {
	t.Helper()
	if is || n.Text() != "0" || n.Digits() != 1 || n.Cmp(num.Num{}) != 0 {
		t.Errorf("%s: %s %v, want 0 false", short(what), short(n.Text()), is)
	}
}

// nines is a number of n nines.
func nines(n int) string { return strings.Repeat("9", n) }

// power is 1 with n noughts.
func power(n int) string { return "1" + strings.Repeat("0", n) }

// negative is the text of the number with the other sign.
func negative(s string) string {
	if s == "0" {
		return s
	}
	if rest, is := strings.CutPrefix(s, "-"); is {
		return rest
	}
	return "-" + s
}

// known is the number of a text as package big has it: the second way.
func known(t *testing.T, s string) *big.Int {
	t.Helper()
	n, is := new(big.Int).SetString(s, 10)
	if !is {
		t.Fatalf("%s is no number", short(s))
	}
	return n
}

// floored is the quotient down to a whole number, and what is left, by the second way.
func floored(a, b *big.Int) (quotient, rest *big.Int) {
	quotient, rest = new(big.Int).QuoRem(a, b, new(big.Int))
	if rest.Sign() != 0 && rest.Sign() != b.Sign() {
		quotient.Sub(quotient, big.NewInt(1))
		rest.Add(rest, b)
	}
	return quotient, rest
}

// holds works out all that two numbers come to, and holds it against the second way.
func holds(t *testing.T, s, u string) {
	t.Helper()
	a, b := parsed(t, s), parsed(t, u)
	x, y := known(t, s), known(t, u)
	says(t, s+" + "+u, a.Add(b), new(big.Int).Add(x, y).String())
	says(t, s+" - "+u, a.Sub(b), new(big.Int).Sub(x, y).String())
	says(t, s+" * "+u, a.Mul(b), new(big.Int).Mul(x, y).String())
	says(t, "-"+s, a.Neg(), new(big.Int).Neg(x).String())
	if got, want := a.Cmp(b), x.Cmp(y); got != want {
		t.Errorf("%s against %s: %d, want %d", short(s), short(u), got, want)
	}
	divides(t, s, u)
	says(t, s+" stays", a, s)
	says(t, u+" stays", b, u)
}

// divides holds Div and Mod against the second way, and against each other.
func divides(t *testing.T, s, u string) {
	t.Helper()
	a, b := parsed(t, s), parsed(t, u)
	quotient, is := a.Div(b)
	rest, also := a.Mod(b)
	if u == "0" {
		isNothing(t, s+" / 0", quotient, is)
		isNothing(t, s+" % 0", rest, also)
		return
	}
	if !is || !also {
		t.Errorf("%s by %s: %v %v", short(s), short(u), is, also)
	}
	x, y := floored(known(t, s), known(t, u))
	says(t, s+" / "+u, quotient, x.String())
	says(t, s+" % "+u, rest, y.String())
	says(t, s+" put together again", quotient.Mul(b).Add(rest), s)
	if sign := rest.Cmp(num.Num{}); sign != 0 && sign != b.Cmp(num.Num{}) {
		t.Errorf("%s %% %s: %s has not its sign", short(s), short(u), short(rest.Text()))
	}
}

// holdsSigned is holds for each of the four pairs of signs, and turned round.
func holdsSigned(t *testing.T, s, u string) {
	t.Helper()
	for _, a := range []string{s, negative(s)} {
		for _, b := range []string{u, negative(u)} {
			holds(t, a, b)
			holds(t, b, a)
		}
	}
}
