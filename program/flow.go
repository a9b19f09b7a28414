package program

import (
	"slices"

	"sable/api"
)

// A flowCheck is for trees whose names are as they may be: one that is not hidden is open.
type flowCheck struct {
	hidden []string
	fault  fault
}

func checkFlow(t Tree) fault {
	var c flowCheck
	for _, d := range t.Names {
		if d.Hidden {
			c.hidden = append(c.hidden, d.Name.Word)
		}
	}
	c.statements(t.Body)
	return c.fault
}

func (c *flowCheck) isHidden(e Expr) bool {
	return e.Head.isWord("spy") || e.Head.isWord(c.hidden...) || slices.ContainsFunc(e.Operands, c.isHidden)
}

func (c *flowCheck) statements(list []Statement) {
	for _, s := range list {
		switch s := s.(type) {
		case Assign:
			c.lead(s.Name, s.Value, s.Name.isWord(c.hidden...))
		case If:
			c.lead(s.Word, s.Condition, false)
			c.statements(s.Then)
			c.statements(s.Else)
		case For:
			c.statements(s.Body)
		case Put:
			c.lead(s.Word, s.Value, s.Word.isWord("hide"))
		}
	}
}

// lead looks at an expression that goes to what a token stands for. The token comes first:
// it stands ahead of all that is in the expression.
func (c *flowCheck) lead(to Token, e Expr, mayBeHidden bool) {
	if !mayBeHidden && c.isHidden(e) {
		c.fault.note(api.ErrFlow, to.Place)
	}
	c.touches(e)
}

// touches looks at the brackets of each peek and spy: which place they touch is to be seen from without.
func (c *flowCheck) touches(e Expr) {
	if e.Head.isWord("peek", "spy") && slices.ContainsFunc(e.Operands, c.isHidden) {
		c.fault.note(api.ErrFlow, e.Head.Place)
	}
	for _, o := range e.Operands {
		c.touches(o)
	}
}
