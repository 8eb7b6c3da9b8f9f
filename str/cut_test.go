package str_test

import (
	"math"
	"testing"

	"smithy/str"
)

// plainCut is Cut, with the sums as the chapter says them; n and the bounds are small, or far out.
func plainCut(n, from, to int, has, until bool) (int, int) {
	inside := func(i int) int {
		if i < 0 {
			i = i + n
		}
		if i < 0 {
			return 0
		}
		if i > n {
			return n
		}
		return i
	}
	from, to = inside(from), inside(to)
	if !has {
		from = 0
	}
	if !until {
		to = n
	}
	if to < from {
		to = from
	}
	return from, to
}

func checkCut(t *testing.T, n, from, to int, has, until bool, wantFrom, wantTo int) {
	t.Helper()
	if a, b := str.Cut(n, from, to, has, until); a != wantFrom || b != wantTo {
		t.Errorf("Cut(%d, %d, %d, %v, %v): %d, %d; want %d, %d", n, from, to, has, until, a, b, wantFrom, wantTo)
	}
}

// P11.2: the bounds of a slice.
func TestCutAnswers(t *testing.T) {
	for _, x := range []struct{ n, from, to, wantFrom, wantTo int }{
		{5, 0, 5, 0, 5},
		{5, 1, 3, 1, 3},
		{5, -2, 9, 3, 5},
		{5, -5, -1, 0, 4},
		{5, -6, -1, 0, 4},
		{5, -9, -9, 0, 0},
		{5, 5, 5, 5, 5},
		{5, 6, 7, 5, 5},
		{5, 2, 2, 2, 2},
		{5, 3, 2, 3, 3},
		{5, 5, 0, 5, 5},
		{5, -1, -3, 4, 4},
		{5, 4, -5, 4, 4},
		{5, 9, -9, 5, 5},
		{1, 0, 1, 0, 1},
		{1, -1, 1, 0, 1},
		{1, 1, -1, 1, 1},
		{0, 0, 0, 0, 0},
		{0, 1, 2, 0, 0},
		{0, -1, -2, 0, 0},
		{0, -1, 1, 0, 0},
		{5, math.MinInt, math.MaxInt, 0, 5},
		{5, math.MaxInt, math.MinInt, 5, 5},
		{5, math.MinInt, math.MinInt, 0, 0},
		{5, math.MaxInt, math.MaxInt, 5, 5},
		{math.MaxInt, -1, math.MaxInt, math.MaxInt - 1, math.MaxInt},
		{math.MaxInt, math.MinInt, -1, 0, math.MaxInt - 1},
		{math.MaxInt, -math.MaxInt, math.MaxInt, 0, math.MaxInt},
	} {
		checkCut(t, x.n, x.from, x.to, true, true, x.wantFrom, x.wantTo)
	}
}

// P11.2: without has from the beginning on, without until to the end, whatever the bounds are.
func TestCutWithout(t *testing.T) {
	for _, i := range []int{math.MinInt, -9, -1, 0, 1, 2, 5, 9, math.MaxInt} {
		for _, k := range []int{math.MinInt, -9, -1, 0, 1, 2, 5, 9, math.MaxInt} {
			checkCut(t, 5, i, k, false, false, 0, 5)
			checkCut(t, 5, i, 3, false, true, 0, 3)
			checkCut(t, 5, i, -1, false, true, 0, 4)
			checkCut(t, 5, 3, k, true, false, 3, 5)
			checkCut(t, 5, -1, k, true, false, 4, 5)
			checkCut(t, 0, i, k, false, false, 0, 0)
		}
	}
}

// P11.2: all small bounds, against a plain second way.
func TestCutAllSmall(t *testing.T) {
	for n := range 6 {
		for from := -8; from < 9; from++ {
			for to := -8; to < 9; to++ {
				for _, has := range []bool{true, false} {
					for _, until := range []bool{true, false} {
						a, b := plainCut(n, from, to, has, until)
						checkCut(t, n, from, to, has, until, a, b)
					}
				}
			}
		}
	}
}

// P0.1: whatever the numbers are, an answer comes.
func TestCutEnds(t *testing.T) {
	far := []int{math.MinInt, math.MinInt + 1, -5, -1, 0, 1, 5, math.MaxInt - 1, math.MaxInt}
	for _, n := range far {
		for _, from := range far {
			for _, to := range far {
				if a, b := str.Cut(n, from, to, true, true); n >= 0 && (a < 0 || b < a || n < b) {
					t.Errorf("Cut(%d, %d, %d): %d, %d", n, from, to, a, b)
				}
			}
		}
	}
}
