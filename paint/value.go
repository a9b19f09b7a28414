package paint

import "sable/program"

// value works out an expression. Each part of the tree is a factor or an operator, and so one step.
func (p *painter) value(e program.Expr) int32 {
	var operands []int32
	for _, o := range e.Operands {
		operands = append(operands, p.value(o))
	}
	p.step()
	switch e.Head.Kind {
	case program.Number:
		return e.Head.Number
	case program.Sign:
		return ofSign(e.Head.Sign, operands)
	}
	return p.ofWord(e.Head.Word, operands)
}

// ofSign need not ask for the sign of one operand: only - has one alone.
func ofSign(sign rune, operands []int32) int32 {
	if len(operands) == 1 {
		return -operands[0]
	}
	a, b := operands[0], operands[1]
	switch sign {
	case '+':
		return a + b
	case '-':
		return a - b
	case '×':
		return a * b
	case '÷':
		return quotient(a, b)
	case '=':
		return number(a == b)
	case '≠':
		return number(a != b)
	case '<':
		return number(a < b)
	}
	return number(a <= b)
}

func quotient(a, b int32) int32 {
	if b == 0 {
		return 0
	}
	return a / b
}

func number(holds bool) int32 {
	if holds {
		return 1
	}
	return 0
}

func (p *painter) ofWord(word string, operands []int32) int32 {
	switch word {
	case "sel":
		if operands[0] != 0 {
			return operands[1]
		}
		return operands[2]
	case "min":
		return min(operands[0], operands[1])
	case "max":
		return max(operands[0], operands[1])
	case "peek":
		return p.texel(openTexels, p.scene.Open, operands)
	case "spy":
		return p.texel(hiddenTexels, p.scene.Hidden, operands)
	}
	return p.values[word]
}

func (p *painter) texel(where int, list []int, operands []int32) int32 {
	at := point{within(operands[0], p.scene.W), within(operands[1], p.scene.H)}
	return int32(list[p.touch(where, at)])
}

// within gives the nearest to n of the columns, or rows, that there are.
func within(n int32, count int) int { return min(max(int(n), 0), count-1) }
