package parse

import (
	"smithy/api"
)

// alone reads a text that is one expression.
func (p *parser) alone() {
	p.tuple()
	if p.token().Kind == api.TNewline {
		p.next()
	}
	p.take(api.TEnd)
}

func (p *parser) tuple() int {
	return p.bare(p.tests)
}

func (p *parser) tests() ([]int, bool) {
	return p.row(p.test, p.begins)
}

// testsOrNone is likewise of brackets, in which there may be none: that is a Tuple, too.
func (p *parser) testsOrNone() ([]int, bool) {
	if !p.begins() {
		return nil, true
	}
	return p.tests()
}

// begins tells whether a test begins here.
func (p *parser) begins() bool {
	switch p.token().Kind {
	case api.TName, api.TInt, api.TStr:
		return true
	}
	switch p.sign() {
	case "not", "-", "None", "True", "False", "(", "[", "{":
		return true
	}
	return false
}

func (p *parser) test() int {
	then := p.or()
	if !p.sees("if") {
		return then
	}
	pos := p.enter("if")
	condition := p.or()
	p.need("else")
	other := p.test()
	p.leave()
	return p.add(api.NIf, pos, "", condition, then, other)
}

func (p *parser) or() int {
	return p.binary(p.and, orOp)
}

func (p *parser) and() int {
	return p.binary(p.not, andOp)
}

func (p *parser) not() int {
	if !p.sees("not") {
		return p.compare()
	}
	return p.ahead("not", api.NNot, p.not)
}

func (p *parser) compare() int {
	left := p.sum()
	op := compareOp(p.sign())
	if op == 0 {
		return left
	}
	pos := p.next().Pos
	if op == api.NNotIn {
		p.need("in")
	}
	right := p.sum()
	return p.add(op, pos, "", left, right)
}

func (p *parser) sum() int {
	return p.binary(p.product, sumOp)
}

func (p *parser) product() int {
	return p.binary(p.unary, productOp)
}

func (p *parser) unary() int {
	if !p.sees("-") {
		return p.primary()
	}
	return p.ahead("-", api.NNeg, p.unary)
}

// ahead reads a sign that stands ahead of the one part that it is of.
func (p *parser) ahead(sign string, op int, part func() int) int {
	pos := p.enter(sign)
	of := part()
	p.leave()
	return p.add(op, pos, "", of)
}

// binary reads parts with signs between them that have an Op; the left ones bind first.
func (p *parser) binary(part func() int, opOf func(sign string) int) int {
	left := part()
	for {
		op := opOf(p.sign())
		if op == 0 {
			return left
		}
		pos := p.next().Pos
		right := part()
		left = p.add(op, pos, "", left, right)
	}
}

func orOp(sign string) int {
	if sign == "or" {
		return api.NOr
	}
	return 0
}

func andOp(sign string) int {
	if sign == "and" {
		return api.NAnd
	}
	return 0
}

// compareOp knows `not in` by its first word, as `not` stands behind a sum only there.
func compareOp(sign string) int {
	switch sign {
	case "==":
		return api.NEq
	case "!=":
		return api.NNe
	case "<":
		return api.NLt
	case "<=":
		return api.NLe
	case ">":
		return api.NGt
	case ">=":
		return api.NGe
	case "in":
		return api.NIn
	case "not":
		return api.NNotIn
	}
	return 0
}

func sumOp(sign string) int {
	switch sign {
	case "+":
		return api.NAdd
	case "-":
		return api.NSub
	}
	return 0
}

func productOp(sign string) int {
	switch sign {
	case "*":
		return api.NMul
	case "//":
		return api.NDiv
	case "%":
		return api.NMod
	}
	return 0
}
