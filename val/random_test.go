package val_test

import (
	"math/rand"
	"slices"
	"strconv"
	"strings"
	"testing"

	"smithy/api"
	"smithy/lex"
	"smithy/val"
)

// plain is a value the plain way: its kind, what it is, and what it has (of a Dict key, value, key, value ..).
type plain struct {
	kind  int
	n     int
	s     string
	names []string
	has   []plain
}

// random is a plain value that has others in it at most so deep.
func random(r *rand.Rand, deep int) plain {
	kinds := []int{api.VNone, api.VBool, api.VInt, api.VStr, api.VInt}
	if deep > 0 {
		kinds = append(kinds, api.VList, api.VTuple, api.VDict, api.VStruct, api.VList, api.VTuple)
	}
	p := plain{kind: kinds[r.Intn(len(kinds))]}
	switch p.kind {
	case api.VBool:
		p.n = r.Intn(2)
	case api.VInt:
		p.n = r.Intn(5) - 2
	case api.VStr:
		p.s = strings.Repeat("a", r.Intn(2)) + strings.Repeat("\n", r.Intn(2))
	case api.VDict:
		for range r.Intn(4) {
			key := random(r, min(deep-1, 2))
			if key.hashed() && !slices.ContainsFunc(p.keys(), func(k plain) bool { return k.sorted() == key.sorted() }) {
				p.has = append(p.has, key, random(r, deep-1))
			}
		}
	case api.VStruct:
		for _, name := range []string{"a", "b", "c"}[:r.Intn(3)] {
			if r.Intn(4) > 0 {
				p.names, p.has = append(p.names, name), append(p.has, random(r, deep-1))
			}
		}
	case api.VList, api.VTuple:
		for range r.Intn(4) {
			p.has = append(p.has, random(r, deep-1))
		}
	}
	return p
}

func (p plain) keys() []plain {
	var keys []plain
	for i := 0; i < len(p.has); i += 2 {
		keys = append(keys, p.has[i])
	}
	return keys
}

func (p plain) hashed() bool {
	return p.kind < api.VList || p.kind == api.VTuple && !slices.ContainsFunc(p.has, func(x plain) bool { return !x.hashed() })
}

// value is the value that p says.
func (p plain) value(t *testing.T) val.Value {
	var has []val.Value
	for _, x := range p.has {
		has = append(has, x.value(t))
	}
	switch p.kind {
	case api.VNone:
		return val.None()
	case api.VBool:
		return val.Bool(p.n == 1)
	case api.VInt:
		return integer(p.n)
	case api.VStr:
		return val.Str(p.s)
	case api.VList:
		return val.NewList(has...)
	case api.VTuple:
		return val.Tuple(has...)
	case api.VDict:
		return dictOf(t, has...)
	}
	return structOf(t, strings.Join(p.names, " "), has...)
}

// pieces is the texts of what p has, put together two by two where pairs stand.
func (p plain) pieces(text func(plain) string) []string {
	var l []string
	switch p.kind {
	case api.VDict:
		for i := 0; i < len(p.has); i += 2 {
			l = append(l, text(p.has[i])+": "+text(p.has[i+1]))
		}
	case api.VStruct:
		for i, name := range p.names {
			l = append(l, name+" = "+text(p.has[i]))
		}
	default:
		for _, x := range p.has {
			l = append(l, text(x))
		}
	}
	return l
}

// text is p as it is written, where order says how a Dict's pairs stand.
func (p plain) text(order func([]string)) string {
	l := p.pieces(func(x plain) string { return x.text(order) })
	switch p.kind {
	case api.VNone:
		return "None"
	case api.VBool:
		return []string{"False", "True"}[p.n]
	case api.VInt:
		return strconv.Itoa(p.n)
	case api.VStr:
		return lex.Quote(p.s)
	case api.VList:
		return "[" + strings.Join(l, ", ") + "]"
	case api.VTuple:
		if len(l) == 1 {
			return "(" + l[0] + ",)"
		}
		return "(" + strings.Join(l, ", ") + ")"
	case api.VDict:
		order(l)
		return "{" + strings.Join(l, ", ") + "}"
	}
	return "struct(" + strings.Join(l, ", ") + ")"
}

func (p plain) written() string { return p.text(func([]string) {}) }

// sorted is a text that equal values have.
func (p plain) sorted() string { return p.text(slices.Sort[[]string]) }

// before is -1, 0 or 1, as p stands to q, and whether they have an order.
func (p plain) before(q plain) (int, bool) {
	switch {
	case p.kind != q.kind || p.kind == api.VNone || p.kind == api.VDict || p.kind == api.VStruct:
		return 0, false
	case p.kind == api.VBool || p.kind == api.VInt:
		return p.n - q.n, true
	case p.kind == api.VStr:
		return strings.Compare(p.s, q.s), true
	}
	for i := range min(len(p.has), len(q.has)) {
		if p.has[i].sorted() != q.has[i].sorted() {
			return p.has[i].before(q.has[i])
		}
	}
	return len(p.has) - len(q.has), true
}

// weight is how many values p is, what it has counted.
func (p plain) weight() int {
	n := 1
	for _, x := range p.has {
		n += x.weight()
	}
	return n
}

// turned is p with its Dicts' pairs in another order, and, now and then, something else in it.
func (p plain) turned(r *rand.Rand, other bool) plain {
	if other && r.Intn(p.weight()) == 0 {
		return random(r, 2)
	}
	q := p
	q.has = nil
	if p.kind == api.VDict {
		for _, i := range r.Perm(len(p.has) / 2) {
			q.has = append(q.has, p.has[2*i], p.has[2*i+1].turned(r, other))
		}
		return q
	}
	for _, x := range p.has {
		q.has = append(q.has, x.turned(r, other))
	}
	return q
}

// P10.2 to P10.5: random values, held against plain ones.
func TestRandomValues(t *testing.T) {
	r := rand.New(rand.NewSource(71))
	rounds := 20000
	if testing.Short() {
		rounds = 4000
	}
	seen := map[bool]int{}
	for range rounds {
		p := random(r, 1+r.Intn(4))
		q := p.turned(r, r.Intn(2) == 0)
		if r.Intn(8) == 0 {
			q = random(r, 1+r.Intn(3))
		}
		if p.weight()+q.weight() > 200 {
			continue
		}
		a, b := p.value(t), q.value(t)
		reads(t, a, p.written())
		same := p.sorted() == q.sorted()
		seen[same]++
		equal(t, p.written()+" and "+q.written(), a, b, same, nil)
		order, ordered := p.before(q)
		if ordered {
			less(t, p.written()+" and "+q.written(), a, b, order < 0, nil)
		} else {
			less(t, p.written()+" and "+q.written(), a, b, false, api.ErrDynamic)
		}
		first, err := val.Key(a)
		second, other := val.Key(b)
		if (err == nil) != p.hashed() || (other == nil) != q.hashed() || err == nil && other == nil && (first == second) != same {
			t.Errorf("Key of %s and %s: %q %q %v %v", p.written(), q.written(), first, second, err, other)
		}
	}
	if seen[true] < rounds/10 || seen[false] < rounds/10 {
		t.Error("too few of one sort:", seen)
	}
}

// P10.1, P10.4: what is read of a value that has no Struct is an expression that says it again.
func TestRandomOf(t *testing.T) {
	r := rand.New(rand.NewSource(9))
	for range 3000 {
		p := random(r, 1+r.Intn(4))
		if strings.Contains(p.written(), "struct(") {
			continue
		}
		v := said(t, p.written())
		reads(t, v, p.written())
		equal(t, p.written(), v, p.value(t), true, nil)
	}
}
