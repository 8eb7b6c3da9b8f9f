package list

import (
	"smithy/api"
	"smithy/num"
	"smithy/val"
)

// mostSpan is how many items a range has at most.
const mostSpan int64 = 1 << 40

// span is a range: its bounds and step as they were given, and how many items it has.
type span struct {
	from, to, step num.Num
	count          int
}

// Range is the range of from, and step more each time, as long as that is below to; with a step below 0: above.
func Range(from, to, step num.Num) (val.Value, error) {
	// Div goes down to a whole number: of a quotient that is turned, and turned back, that is up to one.
	quotient, is := from.Sub(to).Div(step)
	if !is {
		return nil, api.ErrDynamic
	}
	n := quotient.Neg()
	if n.Cmp(num.Of(mostSpan)) > 0 {
		return nil, api.ErrLimit
	}
	r := &span{from: from, to: to, step: step}
	if n.Cmp(num.Num{}) > 0 {
		count, _ := n.Int()
		r.count = int(count)
	}
	return r, nil
}

// Kind is api.VRange.
func (r *span) Kind() int { return api.VRange }

// Empty is whether it has no items.
func (r *span) Empty() bool { return r.count == 0 }

// Repr is `range(from, to)`, or `range(from, to, step)` where the step isn't 1.
func (r *span) Repr() string {
	s := "range(" + r.from.Text() + ", " + r.to.Text()
	if r.step.Cmp(num.Of(1)) != 0 {
		s += ", " + r.step.Text()
	}
	return s + ")"
}

// Like is whether v is a range of the same items.
func (r *span) Like(v val.Value) bool {
	other, is := v.(*span)
	if !is || r.count != other.count {
		return false
	}
	// A step shows from the second item on.
	return r.count == 0 || r.from.Cmp(other.from) == 0 && (r.count == 1 || r.step.Cmp(other.step) == 0)
}

// item is item i, where it has one.
func (r *span) item(i int) val.Value {
	return val.Int(r.from.Add(r.step.Mul(num.Of(int64(i)))))
}

// items is those from first to end, where it has these.
func (r *span) items(first, end int) ([]val.Value, error) {
	if end-first > api.MaxItems {
		return nil, api.ErrLimit
	}
	l := make([]val.Value, 0, end-first)
	for i := first; i < end; i++ {
		l = append(l, r.item(i))
	}
	return l, nil
}

// has is whether x is an Int among its items.
func (r *span) has(x val.Value) bool {
	n, is := val.AsInt(x)
	if !is {
		return false
	}
	way := n.Sub(r.from)
	steps, _ := way.Div(r.step)
	rest, _ := way.Mod(r.step)
	at, is := steps.Int()
	return is && 0 <= at && at < int64(r.count) && rest.Cmp(num.Num{}) == 0
}
