package program

import "sable/api"

// A parser stands ahead of the first of the tokens that are left. All that it chooses, it chooses
// by that token alone, and takes none that may not stand there: so the token at which it fails is
// the first with which no source goes on.
type parser struct {
	rest  []Token
	fault fault
}

func parse(tokens []Token) (Tree, fault) {
	p := parser{rest: tokens}
	var t Tree
	for p.next().isWord("open", "hidden") {
		t.Names = append(t.Names, p.declaration()...)
	}
	t.Body = p.statements()
	if p.next().Kind != End {
		p.fail()
	}
	return t, p.fault
}

func (p *parser) next() Token { return p.rest[0] }

// take is not asked for the end: there is always a token left.
func (p *parser) take() Token {
	t := p.rest[0]
	p.rest = p.rest[1:]
	return t
}

// fail leaves the end alone to be read: no part of a source goes on there, so all that are begun come to theirs.
func (p *parser) fail() {
	p.fault.note(api.ErrSyntax, p.next().Place)
	p.rest = p.rest[len(p.rest)-1:]
}

func (p *parser) takeSign(sign rune) {
	if !p.next().isSign(sign) {
		p.fail()
		return
	}
	p.take()
}

func (p *parser) takeName() Token {
	if !p.next().isName() {
		p.fail()
		return Token{}
	}
	return p.take()
}

func (p *parser) takeNumber() Token {
	if p.next().Kind != Number {
		p.fail()
		return Token{}
	}
	return p.take()
}

func (p *parser) declaration() []Declared {
	hidden := p.take().isWord("hidden")
	list := []Declared{{p.takeName(), hidden}}
	for p.next().isSign(',') {
		p.take()
		list = append(list, Declared{p.takeName(), hidden})
	}
	p.takeSign(';')
	return list
}

func (p *parser) statements() []Statement {
	var list []Statement
	for {
		switch t := p.next(); {
		case t.isName():
			list = append(list, p.assign())
		case t.isWord("if"):
			list = append(list, p.choice())
		case t.isWord("for"):
			list = append(list, p.loop())
		case t.isWord("out", "hide"):
			list = append(list, p.put())
		default:
			return list
		}
	}
}

func (p *parser) assign() Assign {
	name := p.takeName()
	p.takeSign('←')
	value := p.expr()
	p.takeSign(';')
	return Assign{name, value}
}

func (p *parser) choice() If {
	s := If{Word: p.take()}
	s.Condition = p.expr()
	s.Then = p.block()
	if p.next().isWord("else") {
		p.take()
		s.Else = p.block()
	}
	return s
}

func (p *parser) loop() For {
	p.take()
	s := For{Name: p.takeName()}
	s.First = p.takeNumber()
	p.takeSign('…')
	s.Last = p.takeNumber()
	s.Body = p.block()
	return s
}

func (p *parser) put() Put {
	word := p.take()
	value := p.expr()
	p.takeSign(';')
	return Put{word, value}
}

func (p *parser) block() []Statement {
	p.takeSign('{')
	list := p.statements()
	p.takeSign('}')
	return list
}
