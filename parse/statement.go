package parse

import (
	"smithy/api"
	"smithy/lex"
)

// place is what a statement stands in.
type place struct {
	inner bool // another statement
	def   bool
	loop  bool // a for
}

// file reads a whole file.
func (p *parser) file() {
	var kids []int
	for p.token().Kind != api.TEnd {
		kids = append(kids, p.statement(place{}))
	}
	if len(kids) == 0 {
		kids = append(kids, p.add(api.NPass, 0, ""))
	}
	p.addBlock(kids)
}

func (p *parser) addBlock(statements []int) int {
	return p.add(api.NBlock, p.nodes[statements[0]].Pos, "", statements...)
}

func (p *parser) statement(in place) int {
	switch p.sign() {
	case "if":
		return p.cond(p.need("if"), in)
	case "for":
		return p.loop(in)
	case "def":
		p.allow(!in.inner)
		return p.def()
	}
	return p.line(in)
}

// line reads a simple statement and the newline behind it.
func (p *parser) line(in place) int {
	node := p.simple(in)
	p.take(api.TNewline)
	return node
}

func (p *parser) simple(in place) int {
	switch p.sign() {
	case "pass":
		return p.word(api.NPass)
	case "break":
		p.allow(in.loop)
		return p.word(api.NBreak)
	case "continue":
		p.allow(in.loop)
		return p.word(api.NContinue)
	case "return":
		p.allow(in.def)
		return p.result()
	case "load":
		p.allow(!in.inner)
		return p.load()
	}
	return p.assignment()
}

// result reads a return.
func (p *parser) result() int {
	pos := p.need("return")
	if !p.begins() {
		return p.add(api.NReturn, pos, "")
	}
	value := p.tuple()
	return p.add(api.NReturn, pos, "", value)
}

// assignment reads an assignment, or an expression.
func (p *parser) assignment() int {
	left := p.tuple()
	op := api.NAssign
	switch p.sign() {
	case "=":
		p.allow(p.isTarget(left))
	case "+=":
		p.allow(p.isCell(left))
		op = api.NAddTo
	default:
		return p.add(api.NExpr, p.nodes[left].Pos, "", left)
	}
	pos := p.next().Pos
	right := p.tuple()
	return p.add(op, pos, "", left, right)
}

func (p *parser) load() int {
	pos := p.need("load")
	p.need("(")
	module := p.take(api.TStr)
	p.need(",")
	kids := []int{p.loaded()}
	for p.skip(",") && !p.sees(")") {
		kids = append(kids, p.loaded())
	}
	p.need(")")
	return p.add(api.NLoad, pos, module.Text, kids...)
}

// loaded reads a name that is loaded: the name here and the one there, or a string that is both.
func (p *parser) loaded() int {
	here := p.token()
	if here.Kind == api.TStr {
		p.allow(lex.Name(here.Text))
	} else {
		p.take(api.TName)
		p.need("=")
	}
	there := p.take(api.TStr)
	name := p.add(api.NStr, there.Pos, there.Text)
	return p.add(api.NParam, here.Pos, here.Text, name)
}

// cond reads what stands behind an if or an elif, which is at pos.
func (p *parser) cond(pos int, in place) int {
	kids := []int{p.test(), p.block(in)}
	if p.sees("elif") {
		kids = append(kids, p.elif(in))
	} else if p.skip("else") {
		kids = append(kids, p.block(in))
	}
	return p.add(api.NCond, pos, "", kids...)
}

// elif reads an elif and all behind it, as the Block that has it alone.
func (p *parser) elif(in place) int {
	pos := p.enter("elif")
	node := p.cond(pos, in)
	p.leave()
	return p.addBlock([]int{node})
}

func (p *parser) loop(in place) int {
	pos := p.need("for")
	target := p.targets()
	p.need("in")
	over := p.tuple()
	in.loop = true
	body := p.block(in)
	return p.add(api.NFor, pos, "", target, over, body)
}

func (p *parser) def() int {
	pos := p.need("def")
	name := p.take(api.TName)
	p.need("(")
	kids := p.params()
	p.need(")")
	kids = append(kids, p.block(place{def: true}))
	return p.add(api.NDef, pos, name.Text, kids...)
}

// params reads a def's params. Behind one that has a value only such may stand.
func (p *parser) params() []int {
	var kids []int
	names, given := unlike{}, false
	p.items(")", func() {
		name := p.take(api.TName)
		has := p.skip("=")
		if !names.fresh(name.Text) || given && !has {
			panic(fault(name.Pos, api.ErrParse))
		}
		given = has
		var value []int
		if has {
			value = append(value, p.test())
		}
		kids = append(kids, p.add(api.NParam, name.Pos, name.Text, value...))
	})
	return kids
}

// block reads a `:` and the block behind it.
func (p *parser) block(in place) int {
	p.enter(":")
	in.inner = true
	var kids []int
	if p.token().Kind == api.TNewline {
		kids = p.lines(in)
	} else {
		kids = append(kids, p.line(in))
	}
	p.leave()
	return p.addBlock(kids)
}

// lines reads a block that has lines of its own.
func (p *parser) lines(in place) []int {
	p.take(api.TNewline)
	p.take(api.TIndent)
	kids := []int{p.statement(in)}
	for p.token().Kind != api.TDedent {
		kids = append(kids, p.statement(in))
	}
	p.take(api.TDedent)
	return kids
}
