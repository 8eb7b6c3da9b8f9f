package parse

import (
	"strings"

	"smithy/api"
)

// parser is tokens on their way to a tree. What reads a part of the language begins at its first token, ends behind
// its last one, and answers its node. It panics with the first fault that it meets.
type parser struct {
	tokens []api.Token
	at     int // the place of the token that is read next
	nodes  []api.Node
	deep   int // within how many of those that MaxDeep bounds that token stands
}

func fault(pos int, err error) *api.At {
	return &api.At{Pos: pos, Err: err}
}

// token is the one that is read next. There always is one, as nothing is read behind the end.
func (p *parser) token() api.Token {
	return p.tokens[p.at]
}

func (p *parser) next() api.Token {
	token := p.token()
	p.at++
	return token
}

// sign is the sign or the word that is read next; empty, if that is another token.
func (p *parser) sign() string {
	if token := p.token(); token.Kind == api.TSign {
		return token.Text
	}
	return ""
}

// sees tells whether the sign is read next.
func (p *parser) sees(sign string) bool {
	return p.sign() == sign
}

// skip reads the sign, if it stands here, and tells whether it did.
func (p *parser) skip(sign string) bool {
	if !p.sees(sign) {
		return false
	}
	p.at++
	return true
}

// allow is a fault at the token that is read next, if it may not stand here.
func (p *parser) allow(may bool) {
	if !may {
		panic(fault(p.token().Pos, api.ErrParse))
	}
}

// need reads the sign, which has to stand here, and tells where it is.
func (p *parser) need(sign string) int {
	p.allow(p.sees(sign))
	return p.next().Pos
}

// take reads a token, which has to be of the kind.
func (p *parser) take(kind int) api.Token {
	p.allow(p.token().Kind == kind)
	return p.next()
}

// enter reads the sign, as need does, and goes into what is of it: MaxDeep bounds how many of these are in one another.
func (p *parser) enter(sign string) int {
	pos := p.need(sign)
	if p.deep == api.MaxDeep {
		panic(fault(pos, api.ErrLimit))
	}
	p.deep++
	return pos
}

// leave goes out of what was entered last.
func (p *parser) leave() {
	p.deep--
}

// shut leaves brackets by the sign that closes them.
func (p *parser) shut(sign string) {
	p.need(sign)
	p.leave()
}

// add lays down a node. Its S is a copy, as a tree keeps nothing of the text.
func (p *parser) add(op, pos int, s string, kids ...int) int {
	p.nodes = append(p.nodes, api.Node{Op: op, Pos: pos, S: strings.Clone(s), Kids: kids})
	return len(p.nodes) - 1
}

// leaf reads a token that is a node by itself, and says the node's S.
func (p *parser) leaf(op int) int {
	token := p.next()
	return p.add(op, token.Pos, token.Text)
}

// word reads a word that is a node by itself.
func (p *parser) word(op int) int {
	return p.add(op, p.next().Pos, "")
}
