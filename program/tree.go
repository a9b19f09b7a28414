package program

// A Tree is a source that has been read.
type Tree struct {
	Names []Declared
	Body  []Statement
}

// Declared is a name behind open or hidden.
type Declared struct {
	Name   Token
	Hidden bool
}

// A Statement is an Assign, an If, a For or a Put.
type Statement interface{ isStatement() }

// Assign is a name, ←, and what it is to be.
type Assign struct {
	Name  Token
	Value Expr
}

// If has an empty Else where there is none: to do nothing is the same.
type If struct {
	Word       Token
	Condition  Expr
	Then, Else []Statement
}

// For has the numbers of its first and its last round.
type For struct {
	Name, First, Last Token
	Body              []Statement
}

// Put is out or hide, as its word says, and what is put into the picture.
type Put struct {
	Word  Token
	Value Expr
}

func (Assign) isStatement() {}
func (If) isStatement()     {}
func (For) isStatement()    {}
func (Put) isStatement()    {}

// An Expr is a number or a name; or an operator, or a keyword, with its operands from the left to the right.
// Of brackets nothing is left but the form of the tree.
type Expr struct {
	Head     Token
	Operands []Expr
}
