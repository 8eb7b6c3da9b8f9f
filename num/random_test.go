package num_test

import (
	"math/big"
	"math/rand"
	"testing"

	"smithy/num"
)

// rounds is how often a random test goes round.
func rounds(n int) int {
	if testing.Short() {
		return n / 10
	}
	return n
}

// rolledDigits is random digits in groups of nine, among them many of the ones at the edges.
func rolledDigits(r *rand.Rand, groups int) string {
	edges := []string{"000000000", "000000001", "000000002", "333333333", "499999999", "500000000", "500000001", "999999998", "999999999"}
	s := ""
	for range groups {
		if r.Intn(3) > 0 {
			s += edges[r.Intn(len(edges))]
		} else {
			s += num.Of(1000000000 + r.Int63n(1000000000)).Text()[1:]
		}
	}
	return s
}

// rolled is the text of a random number of at most that many groups, with either sign.
func rolled(r *rand.Rand, most int) string {
	digits := rolledDigits(r, r.Intn(most+1))
	if r.Intn(2) == 0 {
		digits = digits[min(len(digits), r.Intn(9)):]
	}
	n, _ := new(big.Int).SetString("0"+digits, 10)
	if r.Intn(2) == 0 {
		n.Neg(n)
	}
	return n.String()
}

// P9.1, P9.2: random numbers, held against the second way.
func TestRandom(t *testing.T) {
	r := rand.New(rand.NewSource(9))
	for range rounds(40000) {
		holds(t, rolled(r, 1+r.Intn(6)), rolled(r, 1+r.Intn(6)))
		if t.Failed() {
			t.FailNow()
		}
	}
}

// P9.1, P9.2: random numbers of hundreds of digits.
func TestRandomLong(t *testing.T) {
	r := rand.New(rand.NewSource(10))
	for range rounds(1000) {
		holds(t, rolled(r, 1+r.Intn(130)), rolled(r, 1+r.Intn(130)))
		if t.Failed() {
			t.FailNow()
		}
	}
}

// P9.1: random numbers that are what others left: products with something added to them.
func TestRandomDivide(t *testing.T) {
	r := rand.New(rand.NewSource(11))
	for range rounds(20000) {
		a, b := parsed(t, rolled(r, 1+r.Intn(5))), parsed(t, rolled(r, 1+r.Intn(4)))
		divides(t, a.Mul(b).Add(num.Of(int64(r.Intn(5)-2))).Text(), b.Text())
		divides(t, a.Mul(b).Add(parsed(t, rolled(r, 2))).Text(), b.Text())
		if t.Failed() {
			t.FailNow()
		}
	}
}

// P9.2: a heap of numbers, of which random ones are reckoned with: each of them stays.
func TestRandomHeap(t *testing.T) {
	r := rand.New(rand.NewSource(12))
	for range rounds(300) {
		heap, want := []num.Num{{}}, []string{"0"}
		for range 60 {
			a, b := heap[r.Intn(len(heap))], heap[r.Intn(len(heap))]
			if r.Intn(4) == 0 {
				a = parsed(t, rolled(r, 4))
			}
			made := all(a, b)
			n := made[r.Intn(len(made))]
			if n.Digits() > 300 {
				continue
			}
			heap, want = append(heap, n), append(want, n.Text())
		}
		for i, n := range heap {
			says(t, "one of the heap", n, want[i])
		}
		if t.Failed() {
			t.FailNow()
		}
	}
}
