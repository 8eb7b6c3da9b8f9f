package str_test

import (
	"math/rand"
	"regexp"
	"strconv"
	"strings"
	"testing"

	"smithy/api"
	"smithy/num"
	"smithy/str"
	"smithy/val"
)

func checkPercent(t *testing.T, s string, l []val.Value, want string, wantErr error) {
	t.Helper()
	got, err := str.Percent(s, l)
	isText(t, "Percent("+strconv.Quote(s)+") of "+strconv.Itoa(len(l)), got, err, want, wantErr)
}

func integer(n int) val.Value { return val.Int(num.Of(int64(n))) }

// power is 10 to the power of n: of n + 1 digits.
func power(t *testing.T, n int) num.Num {
	t.Helper()
	all := num.Of(1)
	for range n {
		all = all.Mul(num.Of(10))
	}
	return all
}

func strs(l ...string) []val.Value {
	var values []val.Value
	for _, s := range l {
		values = append(values, val.Str(s))
	}
	return values
}

// dictOf is a Dict of what is key, value, key, value ..
func dictOf(t *testing.T, l ...val.Value) *val.Dict {
	t.Helper()
	d := val.NewDict()
	for i := 0; i < len(l); i += 2 {
		if err := d.Set(l[i], l[i+1]); err != nil {
			t.Fatal(err)
		}
	}
	return d
}

func structOf(t *testing.T, names string, l ...val.Value) val.Value {
	t.Helper()
	v, err := val.Struct(strings.Fields(names), l...)
	if err != nil {
		t.Fatal(err)
	}
	return v
}

// P11.3: the values one after the other, as their sign asks for them, and what stands between.
func TestPercentAnswers(t *testing.T) {
	a, five, none := val.Str("a"), integer(-5), val.None()
	for _, x := range []struct {
		s    string
		l    []val.Value
		want string
	}{
		{"", nil, ""},
		{"", []val.Value{}, ""},
		{"abc", nil, "abc"},
		{"%%", nil, "%"},
		{"%%%%", nil, "%%"},
		{"100%%", nil, "100%"},
		{"%s", []val.Value{a}, "a"},
		{"%r", []val.Value{a}, `"a"`},
		{"%d", []val.Value{five}, "-5"},
		{"%s%d%r%%", []val.Value{a, five, none}, "a-5None%"},
		{"x%sy%sz", []val.Value{a, none}, "xayNonez"},
		{"%s%r", []val.Value{a, a}, `a"a"`},
		{"%r%s", []val.Value{a, a}, `"a"a`},
		{"%%%s%%", []val.Value{a}, "%a%"},
		{"%%s", nil, "%s"},
		{"%%d%d%%d", []val.Value{five}, "%d-5%d"},
		{"%%%%s", nil, "%%s"},
		{"%ss", []val.Value{a}, "as"},
		{"%dd", []val.Value{five}, "-5d"},
		{"s%sd", []val.Value{a}, "sad"},
		{"{}%s{x}", []val.Value{a}, "{}a{x}"},
		{"\xff%s\u00e4\x00\n", []val.Value{a}, "\xffa\u00e4\x00\n"},
		{"%s%s", strs("%", "s"), "%s"},
		{"%s", strs("%s%d%"), "%s%d%"},
		{"%s-%s-%s", strs("", "b", ""), "-b-"},
		{"%s", strs("\xff\n\""), "\xff\n\""},
		{"%r", strs("\xff\n\""), "\"\xff\\n\\\"\""},
	} {
		checkPercent(t, x.s, x.l, x.want, nil)
	}
}

// P11.3: each kind of value by each sign: `%s` as val.Text has it, `%r` as val.Repr has it, `%d` an Int alone.
func TestPercentKinds(t *testing.T) {
	self := val.NewDict()
	if err := self.Set(val.Str("me"), self); err != nil {
		t.Fatal(err)
	}
	for _, x := range []struct {
		v          val.Value
		text, repr string
	}{
		{val.None(), "None", "None"},
		{val.Bool(true), "True", "True"},
		{val.Bool(false), "False", "False"},
		{integer(0), "0", "0"},
		{integer(12), "12", "12"},
		{integer(-7), "-7", "-7"},
		{val.Int(power(t, 30)), "1" + strings.Repeat("0", 30), "1" + strings.Repeat("0", 30)},
		{val.Str(""), "", `""`},
		{val.Str("a'\"\n"), "a'\"\n", `"a'\"\n"`},
		{val.Str("12"), "12", `"12"`},
		{val.NewList(), "[]", "[]"},
		{val.NewList(integer(1), val.Str("b")), `[1, "b"]`, `[1, "b"]`},
		{val.Tuple(), "()", "()"},
		{val.Tuple(integer(1)), "(1,)", "(1,)"},
		{val.Tuple(val.Str("s"), val.None()), `("s", None)`, `("s", None)`},
		{val.NewDict(), "{}", "{}"},
		{dictOf(t, val.Str("k"), integer(1), integer(2), val.Str("v")), `{"k": 1, 2: "v"}`, `{"k": 1, 2: "v"}`},
		{structOf(t, ""), "struct()", "struct()"},
		{structOf(t, "b a", integer(1), val.Str("s")), `struct(a = "s", b = 1)`, `struct(a = "s", b = 1)`},
		{self, strings.Repeat(`{"me": `, api.MaxDeep) + "..." + strings.Repeat("}", api.MaxDeep), val.Repr(self)},
	} {
		l := []val.Value{x.v}
		checkPercent(t, "%s", l, x.text, nil)
		checkPercent(t, "-%s-", l, "-"+x.text+"-", nil)
		checkPercent(t, "%r", l, x.repr, nil)
		checkPercent(t, "-%r-", l, "-"+x.repr+"-", nil)
		want, wantErr := "", api.ErrDynamic
		if x.v.Kind() == api.VInt {
			want, wantErr = x.repr, nil
		}
		checkPercent(t, "%d", l, want, wantErr)
		checkPercent(t, "%%%d", l, strings.Repeat("%", min(1, len(want)))+want, wantErr)
		checkPercent(t, "%", l, "", api.ErrDynamic)
		checkPercent(t, "", l, "", api.ErrDynamic)
	}
}

// P11.3: another byte, or none, behind a `%`.
func TestPercentSigns(t *testing.T) {
	one := []val.Value{integer(1)}
	for b := range 256 {
		s := "%" + string([]byte{byte(b)})
		switch b {
		case '%':
			checkPercent(t, s, nil, "%", nil)
		case 's', 'r', 'd':
			checkPercent(t, s, one, "1", nil)
		default:
			checkPercent(t, s, one, "", api.ErrDynamic)
			checkPercent(t, s, nil, "", api.ErrDynamic)
			checkPercent(t, "%s"+s, one, "", api.ErrDynamic)
			checkPercent(t, s+"%s", one, "", api.ErrDynamic)
		}
	}
	for _, s := range []string{"%", "a%", "%%%", "%s%", "%%%%%", "%5d", "%-s", "%.2s", "%(x)s", "% d", "%05d", "%S", "%D", "%i", "%c", "%v", "%\u00e4"} {
		checkPercent(t, s, nil, "", api.ErrDynamic)
		checkPercent(t, s, one, "", api.ErrDynamic)
		checkPercent(t, s, append(one[:1:1], one...), "", api.ErrDynamic)
	}
}

// P11.3: one value too few, one too many, and just as many.
func TestPercentCount(t *testing.T) {
	l := []val.Value{integer(1), integer(2), integer(3), integer(4)}
	for _, sign := range []string{"%s", "%r", "%d"} {
		for n := range 5 {
			for have := range 5 {
				want, wantErr := "%"+"1%2%3%4%"[:2*n], error(nil)
				if n != have {
					want, wantErr = "", api.ErrDynamic
				}
				checkPercent(t, "%%"+strings.Repeat(sign+"%%", n), l[:have], want, wantErr)
			}
		}
	}
	checkPercent(t, "", l[:1], "", api.ErrDynamic)
	checkPercent(t, "abc", l[:1], "", api.ErrDynamic)
	checkPercent(t, "%%", l[:1], "", api.ErrDynamic)
	checkPercent(t, "%s", nil, "", api.ErrDynamic)
	checkPercent(t, "%s", l[:2], "", api.ErrDynamic)
}

// P11.3: `%d` of what is no Int, at each place.
func TestPercentNoInt(t *testing.T) {
	for _, v := range []val.Value{val.None(), val.Bool(true), val.Str("1"), val.NewList(integer(1)), val.Tuple(integer(1)), val.NewDict(), structOf(t, "")} {
		checkPercent(t, "%d", []val.Value{v}, "", api.ErrDynamic)
		checkPercent(t, "%d%s", []val.Value{v, integer(1)}, "", api.ErrDynamic)
		checkPercent(t, "%s%d", []val.Value{integer(1), v}, "", api.ErrDynamic)
		checkPercent(t, "%d%d", []val.Value{integer(1), v}, "", api.ErrDynamic)
	}
}

// P11.3: as many bytes as may be made, and one more, of each thing that is put there.
func TestPercentLimit(t *testing.T) {
	most := full()
	for _, x := range []struct {
		s    string
		l    []val.Value
		want string
		err  error
	}{
		{most, nil, most, nil},
		{most + "x", nil, "", api.ErrLimit},
		{most[1:] + "%%", nil, most[1:] + "%", nil},
		{most + "%%", nil, "", api.ErrLimit},
		{"%%" + most, nil, "", api.ErrLimit},
		{strings.Repeat("%%", api.MaxItems), nil, strings.Repeat("%", api.MaxItems), nil},
		{strings.Repeat("%%", api.MaxItems+1), nil, "", api.ErrLimit},
		{"%s", strs(most), most, nil},
		{"%s", strs(most + "x"), "", api.ErrLimit},
		{"%sx", strs(most), "", api.ErrLimit},
		{"x%s", strs(most), "", api.ErrLimit},
		{"%s%s", strs(most, ""), most, nil},
		{most + "%s", strs(""), most, nil},
		{most + "%s", strs("a"), "", api.ErrLimit},
		{most[1:] + "%s", strs("a"), most[1:] + "a", nil},
		{"%r", strs(most[2:]), `"` + most[2:] + `"`, nil},
		{"%r", strs(most[1:]), "", api.ErrLimit},
		{"%r", strs(strings.Repeat("\x01", api.MaxItems/4)), "", api.ErrLimit},
		{"%r", strs(strings.Repeat("x", 1<<20)), "", api.ErrLimit},
		{"%s", strs(strings.Repeat("x", 1<<20)), "", api.ErrLimit},
		{"%s", []val.Value{val.Tuple(strs(most)...)}, "", api.ErrLimit},
		{"%s", []val.Value{val.NewList(strs(most[4:])...)}, `["` + most[4:] + `"]`, nil},
		{"%d", []val.Value{val.Int(power(t, api.MaxItems-1))}, "1" + strings.Repeat("0", api.MaxItems-1), nil},
		{"%d", []val.Value{val.Int(power(t, api.MaxItems))}, "", api.ErrLimit},
		{"%d", []val.Value{val.Int(power(t, api.MaxItems-1).Neg())}, "", api.ErrLimit},
		{"%d", []val.Value{val.Int(power(t, api.MaxItems-2).Neg())}, "-1" + strings.Repeat("0", api.MaxItems-2), nil},
		{"%s", []val.Value{val.Int(power(t, api.MaxItems))}, "", api.ErrLimit},
	} {
		checkPercent(t, x.s, x.l, x.want, x.err)
	}
	checkPercent(t, strings.Repeat("%s", 100000), strs(make([]string, 100000)...), "", nil)
}

// P11.3: a value that stands in 2^200 places, or is far too long, is told as too long.
func TestPercentWide(t *testing.T) {
	v := val.Value(val.Str("xy"))
	for range 50 {
		v = val.Tuple(v, v)
	}
	checkPercent(t, "%s", []val.Value{v}, "", api.ErrLimit)
	checkPercent(t, "%r%d", []val.Value{v, val.None()}, "", api.ErrLimit)
	checkPercent(t, "%d%r", []val.Value{v, v}, "", api.ErrDynamic)
}

// P11.3: of several faults the first from the left is told; a value that is left over is met at the end.
func TestPercentFirst(t *testing.T) {
	most := full()
	for _, x := range []struct {
		s string
		l []val.Value
	}{
		{"%", nil}, {most + "%", nil}, {most + "%z", nil}, {most + "%s", nil}, {most + "%d", strs("a")}, {most + "%zx", nil}, {most, strs("a")}, {most + "%s", strs("", "")},
		{"%z" + most + "x", nil}, {"%s" + most + "x", nil}, {"%d" + most + "x", strs("a")}, {"%d%s", strs("a", most+"x")}, {"%s%z%s", strs("a", most+"x")}, {"%s%", strs(most)}, {"%s%d", strs(most, "1")},
	} {
		checkPercent(t, x.s, x.l, "", api.ErrDynamic)
	}
	for _, x := range []struct {
		s string
		l []val.Value
	}{
		{most + "x%", nil}, {most + "x%z", nil}, {most + "x%s", nil}, {most + "x%d", strs("a")}, {most + "x", strs("a")}, {most + "%%%", nil}, {most + "%%", strs("a")},
		{"%s%", strs(most + "x")}, {"%s%z", strs(most + "x")}, {"%s", strs(most+"x", "a")}, {"%s%s", strs(most + "x")}, {"%s%d", strs(most+"x", "a")}, {"%sx%d", strs(most, "a")}, {"%s%s%d", strs(most, "a", "b")},
	} {
		checkPercent(t, x.s, x.l, "", api.ErrLimit)
	}
}

// percentPiece is what a Percent may go on with.
var percentPiece = regexp.MustCompile(`^(?s:%[%srd]|[^%])`)

func plainPercent(s string, l []val.Value) (string, error) {
	made := ""
	for s != "" {
		p := percentPiece.FindString(s)
		s = s[len(p):]
		switch {
		case p == "":
			return "", api.ErrDynamic
		case p == "%%":
			made += "%"
		case p[0] != '%':
			made += p
		case len(l) == 0 || p == "%d" && l[0].Kind() != api.VInt:
			return "", api.ErrDynamic
		case p == "%s":
			made += val.Text(l[0])
			l = l[1:]
		default:
			made += val.Repr(l[0])
			l = l[1:]
		}
		if len(made) > api.MaxItems {
			return "", api.ErrLimit
		}
	}
	if len(l) > 0 {
		return "", api.ErrDynamic
	}
	return made, nil
}

// P11.3: Percent of all short texts, against a plain second way.
func TestPercentAllShort(t *testing.T) {
	values := []val.Value{integer(1), val.Str("%"), integer(2), val.None()}
	for have := range len(values) + 1 {
		for _, s := range texts("%srdx", lessShort(6)) {
			want, err := plainPercent(s, values[:have])
			checkPercent(t, s, values[:have], want, err)
		}
	}
}

// P11.3: random rows of pieces about as long as what may be made, against a plain second way.
func TestPercentRandom(t *testing.T) {
	r := rand.New(rand.NewSource(113))
	pieces := []string{"%%", "a", "bc", "\xff", "\u00e4", "%s", "%r", "%s", "%r", "%d"}
	rare := []string{"%", "%z", "%d", "%s"}
	for range 3000 {
		l := []string{strings.Repeat("t", r.Intn(api.MaxItems))}
		for range r.Intn(12) {
			l = append(l, pieces[r.Intn(len(pieces))])
		}
		for range max(0, r.Intn(5)-3) {
			l = append(l, rare[r.Intn(len(rare))])
		}
		r.Shuffle(len(l), func(i, k int) { l[i], l[k] = l[k], l[i] })
		s := strings.Join(l, "")
		var values []val.Value
		for range strings.Count(s, "%s") + strings.Count(s, "%r") + strings.Count(s, "%d") + max(0, r.Intn(9)-7) {
			values = append(values, []val.Value{integer(r.Intn(100) - 50), integer(7), val.Str(strings.Repeat("v", r.Intn(200))), val.Str("%\n"), val.NewList(integer(1), val.Str("\t"))}[r.Intn(5)])
		}
		want, err := plainPercent(s, values)
		checkPercent(t, s, values, want, err)
	}
}
