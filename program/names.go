package program

import "sable/api"

// A role is what may be done with a name: with one that is absent, nothing.
type role int

const (
	absent   role = iota
	variable      // it may be read, and stand ahead of ←
	fixed         // it may be read alone
)

type nameCheck struct {
	roles map[string]role
	fault fault
}

func checkNames(t Tree) fault {
	c := nameCheck{roles: map[string]role{"x": fixed, "y": fixed}}
	for _, d := range t.Names {
		c.bring(d.Name, variable)
	}
	c.statements(t.Body)
	return c.fault
}

// bring lets a name be there that is declared, or stands behind for.
func (c *nameCheck) bring(name Token, r role) {
	if len(name.Word) > api.MaxName || c.roles[name.Word] != absent {
		c.fault.note(api.ErrName, name.Place)
	}
	c.roles[name.Word] = r
}

func (c *nameCheck) statements(list []Statement) {
	for _, s := range list {
		switch s := s.(type) {
		case Assign:
			if c.roles[s.Name.Word] != variable {
				c.fault.note(api.ErrName, s.Name.Place)
			}
			c.expr(s.Value)
		case If:
			c.expr(s.Condition)
			c.statements(s.Then)
			c.statements(s.Else)
		case For:
			c.loop(s)
		case Put:
			c.expr(s.Value)
		}
	}
}

func (c *nameCheck) loop(s For) {
	c.bring(s.Name, fixed)
	if s.First.Number > s.Last.Number || s.Last.Number > api.MaxLoop {
		c.fault.note(api.ErrName, s.First.Place)
	}
	c.statements(s.Body)
	delete(c.roles, s.Name.Word)
}

func (c *nameCheck) expr(e Expr) {
	if e.Head.isName() && c.roles[e.Head.Word] == absent {
		c.fault.note(api.ErrName, e.Head.Place)
	}
	for _, o := range e.Operands {
		c.expr(o)
	}
}
