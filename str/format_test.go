package str_test

import (
	"math/rand"
	"regexp"
	"slices"
	"strconv"
	"strings"
	"testing"

	"smithy/api"
	"smithy/lex"
	"smithy/str"
)

// given is what a Format may take.
type given struct{ l, names, values []string }

func checkFormat(t *testing.T, s string, g given, want string, wantErr error) {
	t.Helper()
	got, err := str.Format(s, g.l, g.names, g.values)
	isText(t, "Format("+strconv.Quote(s)+")", got, err, want, wantErr)
}

func twoAndTwo() given {
	return given{[]string{"1", "2"}, []string{"x", "y"}, []string{"X", "Y"}}
}

// P11.3: the next one, one by its number, one by its name, and what stands between.
func TestFormatAnswers(t *testing.T) {
	for _, x := range []struct{ s, want string }{
		{"", ""},
		{"abc", "abc"},
		{"{}-{x}", "1-X"},
		{"{}{}", "12"},
		{"{}", "1"},
		{"a{}b{}c", "a1b2c"},
		{"{x}", "X"},
		{"{y}{x}{y}{y}", "YXYY"},
		{"{x}{}{y}{}", "X1Y2"},
		{"{x}{}{x}{}{x}", "X1X2X"},
		{"{0}", "1"},
		{"{1}", "2"},
		{"{1}{0}{1}", "212"},
		{"{1}{x}{1}", "2X2"},
		{"{01}", "2"},
		{"{00}", "1"},
		{"{000000000}", "1"},
		{"{000000001}", "2"},
		{"a\nb\x00\xff{x}\u00e4", "a\nb\x00\xffX\u00e4"},
		{"%s{x}$1", "%sX$1"},
	} {
		checkFormat(t, x.s, twoAndTwo(), x.want, nil)
	}
	checkFormat(t, "", given{}, "", nil)
	checkFormat(t, "ab", given{}, "ab", nil)
	checkFormat(t, "{x}{y}", given{names: []string{"x", "y"}, values: []string{"", "b"}}, "b", nil)
	checkFormat(t, "{}-{}", given{l: []string{"", ""}}, "-", nil)
	many := given{}
	for i := range 200 {
		many.l = append(many.l, strconv.Itoa(i))
	}
	checkFormat(t, "{199}{10}{099}{9}", many, "19910999", nil)
	checkFormat(t, strings.Repeat("{}", 200), many, strings.Join(many.l, ""), nil)
	checkFormat(t, "{200}", many, "", api.ErrDynamic)
	checkFormat(t, strings.Repeat("{}", 201), many, "", api.ErrDynamic)
}

// P11.3: doubled braces are braces, and say nothing of what stands between them.
func TestFormatBraces(t *testing.T) {
	for _, x := range []struct{ s, want string }{
		{"{{", "{"},
		{"}}", "}"},
		{"{{}}", "{}"},
		{"}}{{", "}{"},
		{"{{{{", "{{"},
		{"}}}}", "}}"},
		{"{{x}}", "{x}"},
		{"{{0}}", "{0}"},
		{"{{{x}}}", "{X}"},
		{"{{{}}}", "{1}"},
		{"{}}}", "1}"},
		{"{{{}", "{1"},
		{"{x}}}{{{y}", "X}{Y"},
		{"{{}}{}{}", "{}12"},
		{"{}{{0}}", "1{0}"},
		{"{0}{{}}", "1{}"},
		{"{{ }}", "{ }"},
		{"{{if}}", "{if}"},
	} {
		checkFormat(t, x.s, twoAndTwo(), x.want, nil)
	}
	for _, x := range []struct{ s, want string }{{"{}{}", "{}}"}, {"{0}{1}{x}", "{}}{{"}, {"{x}{y}", "{{{y}"}} {
		checkFormat(t, x.s, given{[]string{"{}", "}"}, []string{"x", "y"}, []string{"{{", "{y}"}}, x.want, nil)
	}
}

// P11.3: a brace that is open or closed alone, at the beginning, within and at the end.
func TestFormatAlone(t *testing.T) {
	for _, s := range []string{
		"{", "}", "a{", "a}", "{a", "}a", "a{b", "a}b", "{x", "{0", "x}", "0}",
		"{{{", "}}}", "{{}", "{}}", "{x}}", "{{x}", "{x}{", "{x}}{x}", "{}{", "}{", "}{}", "}{{", "{x{", "{x{x}", "{x{}}", "{x{{", "{{{}}", "{{{x}}", "{}{}}", "{ {}}",
		"{{}}}", "{{}}{", "{x}}}}", "}}{", "}}}{{", "}}x}",
	} {
		checkFormat(t, s, twoAndTwo(), "", api.ErrDynamic)
	}
}

// P11.3: numbers have at most nine digits, and there has to be such a text.
func TestFormatNumbers(t *testing.T) {
	for _, s := range []string{
		"{2}", "{9}", "{10}", "{000000002}", "{999999999}", "{0000000000}", "{0000000001}", "{1000000000}", "{9999999999}", "{4294967296}", "{18446744073709551616}", "{18446744073709551617}", "{" + strings.Repeat("0", 100000) + "}",
		"{-1}", "{-0}", "{+1}", "{ 1}", "{1 }", "{1.}", "{1.0}", "{0x1}", "{0_1}", "{1a}", "{1_}", "{1e0}", "{\u0661}", "{1:}", "{1!r}", "{0[0]}",
	} {
		checkFormat(t, s, twoAndTwo(), "", api.ErrDynamic)
	}
	for _, s := range []string{"{}", "{0}", "{1}"} {
		checkFormat(t, s, given{names: []string{"x", "0", "1", ""}, values: []string{"1", "2", "3", "4"}}, "", api.ErrDynamic)
	}
	checkFormat(t, "{0}{1}", given{[]string{"a", "b"}, []string{"0", "1", ""}, []string{"1", "2", "3"}}, "ab", nil)
	checkFormat(t, "{}{}", given{[]string{"a", "b"}, []string{"0", "1", ""}, []string{"1", "2", "3"}}, "ab", nil)
}

// P11.3: the next one that lacks; those that are left over are no fault.
func TestFormatNext(t *testing.T) {
	l := []string{"a", "b", "c", "d"}
	for n := range 6 {
		for have := range len(l) + 1 {
			want, wantErr := strings.Join(l[:min(n, have)], "-")+"-", error(nil)
			if n > have {
				want, wantErr = "", api.ErrDynamic
			} else if n == 0 {
				want = ""
			}
			checkFormat(t, strings.Repeat("{}-", n), given{l: l[:have]}, want, wantErr)
		}
	}
}

// P11.3: a name has to be one, and to be there; of several the first counts.
func TestFormatNames(t *testing.T) {
	g := given{
		names:  []string{"x", "if", "1a", "a b", "x", "a-b", "A", "_", "_9z", "a.b", "x ", " x", "\u00e4", "None", "defs", "x\xff"},
		values: []string{"X", "w", "w", "w", "Z", "w", "B", "C", "D", "w", "w", "w", "w", "w", "E", "w"},
	}
	checkFormat(t, "{x}{A}{_}{_9z}{defs}", g, "XBCDE", nil)
	for _, s := range []string{"{if}", "{1a}", "{a b}", "{a-b}", "{a.b}", "{x }", "{ x}", "{ x }", "{\u00e4}", "{None}", "{x\xff}", "{X}", "{a}", "{xx}", "{B}", "{__}", "{ }", "{\n}", "{x!}", "{x:}", "{x\x00}", "{$}"} {
		checkFormat(t, s, g, "", api.ErrDynamic)
	}
	for _, w := range lex.Words() {
		checkFormat(t, "{"+w+"}", given{[]string{"a"}, []string{w}, []string{"b"}}, "", api.ErrDynamic)
	}
	checkFormat(t, "{x}", given{nil, []string{"y", "x", "x", "x"}, []string{"1", "2", "3", "4"}}, "2", nil)
	checkFormat(t, "{x}", given{nil, []string{"x", "x"}, []string{"", "3"}}, "", nil)
	checkFormat(t, "{x}", given{l: []string{"x"}}, "", api.ErrDynamic)
	checkFormat(t, "{x}{}", given{l: []string{"x"}}, "", api.ErrDynamic)
	long := strings.Repeat("x", 5*api.MaxItems)
	checkFormat(t, "{"+long+"}", given{nil, []string{long + "x", long}, []string{"1", "2"}}, "2", nil)
	for b := range 256 {
		name := "a" + string([]byte{byte(b)}) + "b"
		want, wantErr := "", api.ErrDynamic
		if lex.Name(name) {
			want, wantErr = "v", nil
		}
		checkFormat(t, "{"+name+"}", given{nil, []string{"ab", name}, []string{"w", "v"}}, want, wantErr)
	}
}

// P11.3: names and values that are not as many: a name without a value is none, a value without a name is nothing.
func TestFormatUneven(t *testing.T) {
	checkFormat(t, "{x}", given{nil, []string{"x", "x", "y"}, []string{"1", "2"}}, "1", nil)
	checkFormat(t, "{y}", given{nil, []string{"x", "y"}, []string{"1"}}, "", api.ErrDynamic)
	checkFormat(t, "{x}", given{nil, []string{"x"}, nil}, "", api.ErrDynamic)
	checkFormat(t, "a", given{nil, []string{"x"}, nil}, "a", nil)
	checkFormat(t, "{x}", given{nil, []string{"x"}, []string{"1", "2"}}, "1", nil)
	checkFormat(t, "{y}", given{nil, []string{"x"}, []string{"1", "2"}}, "", api.ErrDynamic)
	checkFormat(t, "{x}", given{nil, nil, []string{"1", "2"}}, "", api.ErrDynamic)
}

// P11.3: the next one and one by its number can't stand in one text, in either order and however far apart.
func TestFormatBoth(t *testing.T) {
	for _, s := range []string{"{}{0}", "{0}{}", "{}{1}", "{1}{}", "{}{}{0}", "{0}{1}{}", "{}a{x}b{{c}}{0}", "{1}a{x}b{{c}}{}", "{0}{x}{}{x}", "{}{000000000}", "{}{}{000000001}"} {
		checkFormat(t, s, twoAndTwo(), "", api.ErrDynamic)
	}
	checkFormat(t, "{0}{}", given{l: []string{"", "", ""}}, "", api.ErrDynamic)
	checkFormat(t, "{}{2}", given{l: []string{"", "", ""}}, "", api.ErrDynamic)
}

// P11.3: as many bytes as may be made, and one more, of each thing that is put there.
func TestFormatLimit(t *testing.T) {
	most := full()
	g := given{[]string{"1", most, most + "x", ""}, []string{"x", "y", "z", "e"}, []string{"X", most, most + "x", ""}}
	for _, x := range []struct {
		s, want string
		err     error
	}{
		{most, most, nil},
		{most + "x", "", api.ErrLimit},
		{"x" + most, "", api.ErrLimit},
		{"{x}" + most[1:], "X" + most[1:], nil},
		{"{x}" + most, "", api.ErrLimit},
		{most[1:] + "{x}", most[1:] + "X", nil},
		{most + "{x}", "", api.ErrLimit},
		{most + "{e}", most, nil},
		{"{e}" + most + "{e}{e}", most, nil},
		{"{y}", most, nil},
		{"{y}{e}", most, nil},
		{"{y}x", "", api.ErrLimit},
		{"x{y}", "", api.ErrLimit},
		{"{z}", "", api.ErrLimit},
		{"{1}", most, nil},
		{"{1}{3}", most, nil},
		{"{1}{0}", "", api.ErrLimit},
		{"{2}", "", api.ErrLimit},
		{"{}" + most[1:], "1" + most[1:], nil},
		{most[1:] + "{}", most[1:] + "1", nil},
		{most + "{}", "", api.ErrLimit},
		{"{}{}", "", api.ErrLimit},
		{most[1:] + "{{", most[1:] + "{", nil},
		{most[1:] + "}}", most[1:] + "}", nil},
		{most + "{{", "", api.ErrLimit},
		{most + "}}", "", api.ErrLimit},
		{"}}" + most, "", api.ErrLimit},
		{strings.Repeat("{{", api.MaxItems), strings.Repeat("{", api.MaxItems), nil},
		{strings.Repeat("}}", api.MaxItems), strings.Repeat("}", api.MaxItems), nil},
		{strings.Repeat("{{", api.MaxItems+1), "", api.ErrLimit},
		{strings.Repeat("{x}", api.MaxItems), strings.Repeat("X", api.MaxItems), nil},
		{strings.Repeat("{x}", api.MaxItems+1), "", api.ErrLimit},
		{strings.Repeat("{0}", api.MaxItems), strings.Repeat("1", api.MaxItems), nil},
		{strings.Repeat("{e}", 20000), "", nil},
		{strings.Repeat("{e}", 20000) + "a", "a", nil},
	} {
		checkFormat(t, x.s, g, x.want, x.err)
	}
}

// P11.3: of several faults the first from the left is told: too long it is with the byte that goes beyond.
func TestFormatFirst(t *testing.T) {
	most := full()
	g := given{[]string{"1", most + "x", "", most[1:]}, []string{"x", "z", "e"}, []string{"X", most + "x", ""}}
	for _, s := range []string{
		"{" + most + "x", "}" + most + "x", "{" + most + "x}", "{nil}" + most + "x", "{if}" + most + "x", "{9}" + most + "x", "{0000000000}" + most + "x", "{ }" + most + "x",
		most + "{", most + "}", most + "{x", most + "{nil}", most + "{if}", most + "{4}", most + "{4}x", most + "{ }{{", most + "}x", most + "{e}{", most + "{2}{}", "{z", "x{z",
		"{nil}{z}", "{}{0}{z}", "{0}{}{z}", "{}" + most[1:] + "{0}", "{0}" + most[1:] + "{}", "{}{0}" + most, "{}{{" + most[2:] + "{0}", "{4}{1}", "{2}{}" + most + "x", "{2}{}{}{}" + most,
	} {
		checkFormat(t, s, g, "", api.ErrDynamic)
	}
	for _, s := range []string{
		most + "x{", most + "x}", most + "x{nil}", most + "{{{", most + "}}}", most + "{x}{", most + "{0}{}", most + "{}{0}", most + "{}}{}{", "{z}{", "{z}}", "{z}{nil}", "{1}{}", "{1}{4}", "{}" + most + "{0}", "{0}" + most + "{}", "{}{}{0}", "{}{}{}{}{}", "{3}{x}{x}{", most + "x{}{}{}{}{}",
	} {
		checkFormat(t, s, g, "", api.ErrLimit)
	}
}

// P0.1: very many places, texts and names end soon enough.
func TestFormatLong(t *testing.T) {
	const n = 100000
	g := given{l: make([]string, n)}
	for i := range n {
		g.names, g.values = append(g.names, "a"+strconv.Itoa(i)), append(g.values, strings.Repeat("v", i/(n-1)))
	}
	last := "{a" + strconv.Itoa(n-1) + "}"
	checkFormat(t, strings.Repeat("{a"+strconv.Itoa(n-2)+"}", n)+last, g, "v", nil)
	checkFormat(t, strings.Repeat("{}", n)+last, g, "v", nil)
	checkFormat(t, strings.Repeat("{}", n+1)+last, g, "", api.ErrDynamic)
	checkFormat(t, strings.Repeat("{99999}", n)+last, g, "v", nil)
	checkFormat(t, strings.Repeat("{", 2*n)+"}", given{}, "", api.ErrLimit)
	checkFormat(t, "{"+strings.Repeat("x", 1<<20), given{}, "", api.ErrDynamic)
}

// piece is what a Format may go on with.
var piece = regexp.MustCompile(`^(?s:\{\{|\}\}|\{[0-9]{0,9}\}|\{[A-Za-z_][A-Za-z0-9_]*\}|[^{}])`)

func plainFormat(s string, g given) (string, error) {
	made, next, both := "", 0, map[bool]bool{}
	for s != "" {
		p := piece.FindString(s)
		s = s[len(p):]
		inner := strings.Trim(p, "{}")
		n, err := strconv.Atoi(inner)
		switch {
		case p == "":
			return "", api.ErrDynamic
		case p == "{{" || p == "}}":
			made += p[:1]
		case p[0] != '{':
			made += p
		case inner == "" || err == nil:
			both[inner == ""] = true
			if inner == "" {
				n = next
				next++
			}
			if len(both) > 1 || n >= len(g.l) {
				return "", api.ErrDynamic
			}
			made += g.l[n]
		default:
			i := slices.Index(g.names, inner)
			if slices.Contains(lex.Words(), inner) || i < 0 {
				return "", api.ErrDynamic
			}
			made += g.values[i]
		}
		if len(made) > api.MaxItems {
			return "", api.ErrLimit
		}
	}
	return made, nil
}

// P11.3: Format of all short texts, against a plain second way.
func TestFormatAllShort(t *testing.T) {
	for _, g := range []given{{}, {l: []string{"a"}}, {[]string{"a", "}"}, []string{"x", "if", "x"}, []string{"{", "b", "c"}}} {
		for _, s := range texts("{}0x1 ", lessShort(6)) {
			want, err := plainFormat(s, g)
			checkFormat(t, s, g, want, err)
		}
		for _, s := range texts("{}0", lessShort(9)) {
			want, err := plainFormat(s, g)
			checkFormat(t, s, g, want, err)
		}
	}
}

// P11.3: random rows of pieces about as long as what may be made, against a plain second way.
func TestFormatRandom(t *testing.T) {
	r := rand.New(rand.NewSource(11))
	pieces := []string{"{{", "}}", "a", "bc", "\xff", "\u00e4", "{x}", "{long}", "{y}", "{x}", "{y}"}
	rare := []string{"{", "}", "{z}", "{if}", "{0}", "{1}", "{}", "{000000001}", "{0000000001}", "{7}", "{1x}"}
	for range 3000 {
		g := given{[]string{"1", "", strings.Repeat("n", r.Intn(400))}, []string{"y", "long", "x", "y"}, []string{"", strings.Repeat("l", r.Intn(300)), "X", "W"}}
		l := []string{strings.Repeat("t", r.Intn(api.MaxItems))}
		for range r.Intn(30) {
			l = append(l, pieces[r.Intn(len(pieces))])
		}
		for range r.Intn(4) {
			l = append(l, rare[r.Intn(len(rare))])
		}
		r.Shuffle(len(l), func(i, k int) { l[i], l[k] = l[k], l[i] })
		s := strings.Join(l, "")
		want, err := plainFormat(s, g)
		checkFormat(t, s, g, want, err)
	}
}
