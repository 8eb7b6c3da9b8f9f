package resolve_test

import (
	"strings"
	"testing"

	"smithy/resolve"
)

// places are expressions with a name in each place that they have, which stands as @.
var places = []string{
	"@", "(@,)", "(1, @)", "[@]", "[1, @]", "{@: 1}", "{1: @}", "@()", "b(@)", "b(1, @)", "b(k = @)", "b(1, k = @)", "@.k", "@[0]", "b[@]", "@[:]", "b[@:]", "b[:@]", "b[1:@]", "b[@:2]", "-@", "not @",
	"@ and 1", "1 and @", "@ or 1", "1 or @", "@ if 1 else 2", "1 if @ else 2", "1 if 2 else @", "@ + 1", "1 + @", "@ - 1", "1 - @", "@ * 1", "1 * @", "@ // 1", "1 // @", "@ % 1", "1 % @",
	"@ == 1", "1 == @", "@ != 1", "1 != @", "@ < 1", "1 < @", "@ <= 1", "1 <= @", "@ > 1", "1 > @", "@ >= 1", "1 >= @", "@ in 1", "1 in @", "@ not in 1", "1 not in @",
	"[@ for y in 1]", "[1 for y in @]", "[1 for y in 2 if @]", "[1 for b[@] in 2]", "[1 for (y, @[0]) in 2]", "(((-b(k = [{1: [@]}[0]]).k)))",
}

// useAt is the use of the Name at Pos.
func useAt(t *testing.T, text string, pos int, given ...string) resolve.Use {
	t.Helper()
	l := parsed(t, text)
	uses, funcs, err := resolve.Resolve(l, given...)
	if err != nil {
		t.Errorf("%q: %v", text, err)
		return resolve.Use{}
	}
	nodesFit(t, text, l, uses, funcs)
	for _, use := range uses {
		if l[use.Node].Pos == pos {
			return resolve.Use{Scope: use.Scope, Slot: use.Slot}
		}
	}
	t.Errorf("%q: no use at %d", text, pos)
	return resolve.Use{}
}

// P8.1: a Name in each place of each expression and statement, bound by the whole, by what it stands in, given, and not at all.
func TestEverywhere(t *testing.T) {
	for _, x := range []struct {
		statement string
		scope     int // of q
	}{
		{"#", resolve.Predeclared}, {"c = #", resolve.Predeclared}, {"b += #", resolve.Predeclared}, {"b[#] = 1", resolve.Predeclared}, {"b[#] += 1", resolve.Predeclared}, {"(c, b[#]) = 1", resolve.Predeclared},
		{"if #: pass", resolve.Predeclared}, {"if 1: #\nelif #: #\nelse: #", resolve.Predeclared}, {"for c in #: #", resolve.Predeclared}, {"for b[#] in 1: pass", resolve.Predeclared},
		{"def f(c, a = #): #", resolve.Predeclared}, {"def f(): return #", resolve.Predeclared}, {"def f():\n for c in #: #", resolve.Predeclared},
		{"c = #\nq = #", resolve.Global}, {"if 1: q += #\nelse: #", resolve.Global}, {"for q in #: #", resolve.Global}, {"def f(a = #): return #\ndef q(): pass", resolve.Global}, {"def f(): #\nload('m', 'q')", resolve.Global},
		{"def f(q): return #", resolve.Local}, {"def f():\n #\n q = #", resolve.Local}, {"def f():\n if #: #\n else: q += #", resolve.Local}, {"def f():\n for q in #: #", resolve.Local},
		{"[# for q in 1]", resolve.Local}, {"[1 for q in 1 if #]", resolve.Local}, {"[1 for q, b[#] in 1]", resolve.Local}, {"def f(c, a = [# for q in 1 if #]): pass", resolve.Local}, {"def f():\n return [# for q in 1]", resolve.Local},
	} {
		for _, place := range places {
			holes := strings.Count(x.statement, "#")
			for hole := range holes {
				pieces := strings.Split(x.statement, "#")
				text := strings.Join(pieces[:hole+1], "1") + "(" + place + ")" + strings.Join(pieces[hole+1:], "1")
				before, after, _ := strings.Cut(text, "@")
				want := resolve.Use{Scope: x.scope, Slot: 0}
				if x.scope == resolve.Predeclared {
					want.Slot = 2
					faults(t, before+"^r"+after, "b", "p", "q")
				} else if x.scope == resolve.Global {
					want.Slot = strings.Count(x.statement, "c = ") + strings.Count(x.statement, "def f")
				}
				if got := useAt(t, before+"q"+after, len(before), "b", "p", "q"); got != want {
					t.Errorf("%q: %v, want %v", text, got, want)
				}
			}
		}
	}
}
