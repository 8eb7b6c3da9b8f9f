package parse

import (
	"strings"

	"smithy/api"
)

func (p *parser) primary() int {
	what := p.atom()
	for {
		switch p.sign() {
		case ".":
			what = p.dot(what)
		case "(":
			what = p.call(what)
		case "[":
			what = p.index(what)
		default:
			return what
		}
	}
}

func (p *parser) dot(what int) int {
	pos := p.need(".")
	name := p.take(api.TName)
	return p.add(api.NDot, pos, name.Text, what)
}

func (p *parser) call(what int) int {
	pos := p.enter("(")
	kids := []int{what}
	names := unlike{}
	p.items(")", func() {
		kids = append(kids, p.argument(names))
	})
	p.shut(")")
	return p.add(api.NCall, pos, "", kids...)
}

// argument reads an argument of a call that has arguments of those names already. Behind one with a name only such may stand.
func (p *parser) argument(names unlike) int {
	if !p.isNamed() {
		p.allow(len(names) == 0)
		return p.test()
	}
	p.allow(names.fresh(p.token().Text))
	name := p.next()
	p.need("=")
	value := p.test()
	return p.add(api.NArg, name.Pos, name.Text, value)
}

// isNamed tells whether a name and a `=` stand here. (Behind a name there is a token, the newline at the least.)
func (p *parser) isNamed() bool {
	if p.token().Kind != api.TName {
		return false
	}
	second := p.tokens[p.at+1]
	return second.Kind == api.TSign && second.Text == "="
}

// index reads an Index or a Slice.
func (p *parser) index(what int) int {
	pos := p.enter("[")
	op := api.NIndex
	kids := []int{what, p.bound(":")}
	if p.skip(":") {
		op = api.NSlice
		kids = append(kids, p.bound("]"))
	}
	p.shut("]")
	return p.add(op, pos, "", kids...)
}

// bound reads what stands ahead of the sign; Nothing, if it is left out.
func (p *parser) bound(sign string) int {
	if p.sees(sign) {
		return p.add(api.NNothing, p.token().Pos, "")
	}
	return p.test()
}

func (p *parser) atom() int {
	switch p.token().Kind {
	case api.TName:
		return p.leaf(api.NName)
	case api.TInt:
		return p.leaf(api.NInt)
	case api.TStr:
		return p.texts()
	}
	switch p.sign() {
	case "None":
		return p.word(api.NNone)
	case "True":
		return p.word(api.NTrue)
	case "False":
		return p.word(api.NFalse)
	case "(":
		return p.round(p.testsOrNone)
	case "[":
		return p.list()
	case "{":
		return p.dict()
	}
	panic(fault(p.token().Pos, api.ErrParse))
}

// texts reads strings, one behind the other, as one Str.
func (p *parser) texts() int {
	pos := p.token().Pos
	var says strings.Builder
	for p.token().Kind == api.TStr {
		says.WriteString(p.next().Text)
	}
	return p.add(api.NStr, pos, says.String())
}

// list reads a List or a Comp.
func (p *parser) list() int {
	pos := p.enter("[")
	op := api.NList
	kids, comma := p.testsOrNone()
	if !comma && p.sees("for") {
		op = api.NComp
		kids = append(kids, p.rounds()...)
	}
	p.shut("]")
	return p.add(op, pos, "", kids...)
}

// rounds reads what stands behind a Comp's item: the target, what it goes over, and the condition, if there is one.
func (p *parser) rounds() []int {
	p.need("for")
	kids := []int{p.targets()}
	p.need("in")
	kids = append(kids, p.or())
	if p.skip("if") {
		kids = append(kids, p.or())
	}
	return kids
}

func (p *parser) dict() int {
	pos := p.enter("{")
	var kids []int
	p.items("}", func() {
		kids = append(kids, p.test())
		p.need(":")
		kids = append(kids, p.test())
	})
	p.shut("}")
	return p.add(api.NDict, pos, "", kids...)
}
