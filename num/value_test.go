package num_test

import (
	"strings"
	"sync"
	"testing"

	"smithy/num"
)

// P9.2: a number that is added to itself, taken from itself, multiplied or divided by itself stays what it is.
func TestItself(t *testing.T) {
	for _, s := range []string{"0", "1", "-1", "999999999", "-1000000000", nines(18), "-" + nines(27), nines(400), "-" + power(400), strings.Repeat("500000000", 40)} {
		a := parsed(t, s)
		x := known(t, s)
		two, square := known(t, s), known(t, s)
		two.Add(two, x)
		square.Mul(square, x)
		for range 3 {
			says(t, "a + a", a.Add(a), two.String())
			says(t, "a - a", a.Sub(a), "0")
			says(t, "a * a", a.Mul(a), square.String())
			says(t, "-a", a.Neg(), negative(s))
			quotient, is := a.Div(a)
			rest, also := a.Mod(a)
			if is != (s != "0") || also != is || is && quotient.Text() != "1" || rest.Text() != "0" || a.Cmp(a) != 0 {
				t.Errorf("%s by itself: %s %s %v %v", short(s), quotient.Text(), rest.Text(), is, also)
			}
			says(t, "a", a, s)
		}
	}
}

// all is each number that the calls have of two.
func all(a, b num.Num) []num.Num {
	l := []num.Num{a, b, a.Add(b), b.Add(a), a.Sub(b), b.Sub(a), a.Mul(b), b.Mul(a), a.Neg(), b.Neg(), a.Add(num.Num{}), a.Sub(num.Num{}), a.Mul(num.Of(1))}
	for _, x := range [][2]num.Num{{a, b}, {b, a}, {a, num.Of(1)}} {
		quotient, _ := x[0].Div(x[1])
		rest, _ := x[0].Mod(x[1])
		l = append(l, quotient, rest)
	}
	return l
}

// texts is what numbers say.
func texts(l []num.Num) []string {
	var s []string
	for _, n := range l {
		s = append(s, n.Text())
	}
	return s
}

// P9.2: no number that came in or out is changed by a later call, whatever is reckoned of it and of what came of it.
func TestStay(t *testing.T) {
	for _, x := range [][2]string{
		{"5", "3"}, {"-5", "3"}, {"5", "-7"}, {"0", "1"}, {"999999999", "1"}, {"1000000000", "-1"}, {"-999999999999999999", "-1"}, {nines(45), "1"}, {power(45), "-1"}, {nines(45), nines(18)}, {"-" + nines(90), power(45)}, {power(90), "500000000499999999"},
		{"500000000333333333000000001333333333", "500000001999999998"}, {"333333333499999999000000001500000001", "999999998500000000333333333"},
	} {
		first := all(parsed(t, x[0]), parsed(t, x[1]))
		want := texts(first)
		for _, a := range first {
			for _, b := range first {
				all(a, b)
			}
		}
		for _, a := range all(first[2], first[6]) {
			for _, b := range first {
				all(a, b)
				all(b, a)
				a.Int()
				a.Digits()
				a.Cmp(b)
			}
		}
		for i, n := range first {
			says(t, "a number that stays", n, want[i])
		}
	}
}

// P9.2: sums that go on from the same number, of which the first must not be written over by the next.
func TestSumsOfSums(t *testing.T) {
	for _, s := range []string{"1", "999999999", nines(17), nines(18), nines(19), "-" + nines(180), power(180)} {
		a := parsed(t, s)
		b := a.Add(num.Of(7))
		more, less, thrice, turned := b.Add(num.Of(1)), b.Sub(num.Of(1)), b.Mul(num.Of(3)), b.Neg()
		want := texts([]num.Num{a, b, more, less, thrice, turned})
		for i := range int64(50) {
			b.Add(num.Of(1000000000 * i))
			b.Sub(a.Mul(num.Of(i)))
			more.Add(less).Mul(thrice).Sub(turned)
			a.Neg().Add(b).Neg().Sub(more)
		}
		for i, n := range []num.Num{a, b, more, less, thrice, turned} {
			says(t, "one of the sums", n, want[i])
		}
		says(t, "one more", more.Sub(b), "1")
		says(t, "one less", less.Sub(b), "-1")
		says(t, "thrice", thrice.Sub(b).Sub(b).Sub(b), "0")
		says(t, "turned", turned.Add(b), "0")
	}
}

// P9.2: a copy is the number, and goes its own way.
func TestCopies(t *testing.T) {
	a := parsed(t, nines(50))
	b := a
	a = a.Add(num.Of(1))
	says(t, "the copy", b, nines(50))
	says(t, "what went on", a, power(50))
	l := []num.Num{b, b, b}
	l[0], l[1] = l[0].Neg(), l[1].Mul(l[1])
	says(t, "the last", l[2], nines(50))
	says(t, "the copy", b, nines(50))
}

// P9.2: several goroutines reckon with the same numbers; none of them writes to one.
func TestAtOnce(t *testing.T) {
	a, b := parsed(t, strings.Repeat("500000000999999999", 30)), parsed(t, "-"+strings.Repeat("987654321", 20))
	want := texts(all(a, b))
	var wait sync.WaitGroup
	for range 8 {
		wait.Go(func() {
			for range 20 {
				for i, n := range all(a, b) {
					if n.Text() != want[i] {
						t.Errorf("number %d is another one", i)
					}
				}
			}
		})
	}
	wait.Wait()
}
