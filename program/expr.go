package program

func (p *parser) expr() Expr {
	e := p.sum()
	if p.next().isSign('=', '≠', '<', '≤') {
		sign := p.take()
		e = Expr{sign, []Expr{e, p.sum()}}
	}
	return e
}

func (p *parser) sum() Expr {
	e := p.term()
	for p.next().isSign('+', '-') {
		sign := p.take()
		e = Expr{sign, []Expr{e, p.term()}}
	}
	return e
}

func (p *parser) term() Expr {
	e := p.factor()
	for p.next().isSign('×', '÷') {
		sign := p.take()
		e = Expr{sign, []Expr{e, p.factor()}}
	}
	return e
}

func (p *parser) factor() Expr {
	switch t := p.next(); {
	case t.Kind == Number, t.isName():
		return Expr{Head: p.take()}
	case t.isSign('('):
		return p.bracket()
	case t.isSign('-'):
		sign := p.take()
		return Expr{sign, []Expr{p.factor()}}
	case t.isWord("peek", "spy"):
		return p.call('[', ']', 2)
	case t.isWord("sel"):
		return p.call('(', ')', 3)
	case t.isWord("min", "max"):
		return p.call('(', ')', 2)
	}
	p.fail()
	return Expr{}
}

func (p *parser) bracket() Expr {
	p.takeSign('(')
	e := p.expr()
	p.takeSign(')')
	return e
}

func (p *parser) call(left, right rune, count int) Expr {
	e := Expr{Head: p.take()}
	p.takeSign(left)
	for i := range count {
		if i > 0 {
			p.takeSign(',')
		}
		e.Operands = append(e.Operands, p.expr())
	}
	p.takeSign(right)
	return e
}
