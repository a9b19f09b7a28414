package sable_test

import (
	"slices"
	"strconv"

	"sable/api"
)

// What Paint ought to answer, worked out in other ways than the program's: expressions by cutting
// stretches of tokens at their last operator, without a tree; values as greater numbers that are taken
// modulo; tones by trying whole numbers; all touches kept.

type canvas struct {
	scene         api.Scene
	column, row   int
	names         map[string]int64
	steps         int
	touches       []api.Touch
	first, second []int
}

type tooManySteps struct{}

func (c *canvas) step() {
	c.steps++
	if c.steps > 20000 {
		panic(tooManySteps{})
	}
}

func (c *canvas) touch(where, column, row int) int {
	place := row*c.scene.W + column
	c.touches = append(c.touches, api.Touch{Where: where, Place: place})
	return place
}

func modulo(n int64) int64 {
	n = (n%4294967296 + 4294967296) % 4294967296
	if n > 2147483647 {
		n -= 4294967296
	}
	return n
}

// shut finds the end of a bracket that list[from] opens.
func shut(list []piece, from int) int {
	depth := 0
	for i := from; ; i++ {
		switch list[i].text {
		case "(", "[", "{":
			depth++
		case ")", "]", "}":
			depth--
		}
		if depth == 0 {
			return i
		}
	}
}

// cut finds the last of these operators that stands in no bracket; -1 if there is none.
func cut(list []piece, operators ...string) int {
	last := -1
	for i := 0; i < len(list); i++ {
		p := list[i]
		if p.text == "(" || p.text == "[" {
			i = shut(list, i)
			continue
		}
		behind := i > 0 && (list[i-1].kind == "NAME" || list[i-1].kind == "NUMBER" || list[i-1].text == ")" || list[i-1].text == "]")
		if behind && slices.Contains(operators, p.text) {
			last = i
		}
	}
	return last
}

func (c *canvas) value(list []piece) int64 {
	for _, level := range [][]string{{"=", "≠", "<", "≤"}, {"+", "-"}, {"×", "÷"}} {
		if at := cut(list, level...); at >= 0 {
			a := c.value(list[:at])
			b := c.value(list[at+1:])
			c.step()
			return operated(list[at].text, a, b)
		}
	}
	switch p := list[0]; {
	case p.kind == "NUMBER":
		c.step()
		n, _ := strconv.ParseInt(p.text, 10, 64)
		return n
	case p.kind == "NAME":
		c.step()
		return c.names[p.text]
	case p.text == "(":
		return c.value(list[1 : len(list)-1])
	case p.text == "-":
		c.step()
		return modulo(-c.value(list[1:]))
	}
	return c.called(list[0].text, list[2:len(list)-1])
}

func operated(operator string, a, b int64) int64 {
	holds := false
	switch operator {
	case "+":
		return modulo(a + b)
	case "-":
		return modulo(a - b)
	case "×":
		return modulo(a * b)
	case "÷":
		if b == 0 {
			return 0
		}
		return modulo(a / b)
	case "=":
		holds = a == b
	case "≠":
		holds = a != b
	case "<":
		holds = a < b
	case "≤":
		holds = a <= b
	}
	if holds {
		return 1
	}
	return 0
}

func (c *canvas) called(word string, list []piece) int64 {
	var v []int64
	from := 0
	for i := 0; i <= len(list); i++ {
		switch {
		case i == len(list) || list[i].text == ",":
			v = append(v, c.value(list[from:i]))
			from = i + 1
		case list[i].text == "(" || list[i].text == "[":
			i = shut(list, i)
		}
	}
	c.step()
	switch word {
	case "sel":
		if v[0] == 0 {
			return v[2]
		}
		return v[1]
	case "min":
		return slices.Min(v)
	case "max":
		return slices.Max(v)
	}
	// The nearest column, and row, are found by trying them all.
	column, row := 0, 0
	for column < c.scene.W-1 && int64(column) < v[0] {
		column++
	}
	for row < c.scene.H-1 && int64(row) < v[1] {
		row++
	}
	if word == "peek" {
		return int64(c.scene.Open[c.touch(0, column, row)])
	}
	return int64(c.scene.Hidden[c.touch(1, column, row)])
}

func toneOf(v int64) int {
	if v < 0 {
		return 0
	}
	if v > 255 {
		v = 255
	}
	n := 0
	for 4*255*v > int64(2*n+1)*int64(2*n+1) {
		n++
	}
	return n
}

// upTo finds the next of these signs.
func upTo(list []piece, text string) int {
	return slices.IndexFunc(list, func(p piece) bool { return p.text == text })
}

func (c *canvas) do(list []piece) {
	for len(list) > 0 {
		c.step()
		var count int
		switch word := list[0].text; word {
		case "if":
			count = c.doIf(list)
		case "for":
			count = c.doFor(list)
		case "out", "hide":
			count = upTo(list, ";") + 1
			v := toneOf(c.value(list[1 : count-1]))
			if word == "out" {
				c.first[c.touch(2, c.column, c.row)] = v
			} else {
				c.second[c.touch(3, c.column, c.row)] = v
			}
		default:
			count = upTo(list, ";") + 1
			c.names[word] = c.value(list[2 : count-1])
		}
		list = list[count:]
	}
}

func (c *canvas) doIf(list []piece) int {
	begin := upTo(list, "{")
	end := shut(list, begin)
	holds := c.value(list[1:begin]) != 0
	if holds {
		c.do(list[begin+1 : end])
	}
	if end+1 < len(list) && list[end+1].text == "else" {
		begin, end = end+2, shut(list, end+2)
		if !holds {
			c.do(list[begin+1 : end])
		}
	}
	return end + 1
}

func (c *canvas) doFor(list []piece) int {
	end := shut(list, 5)
	from, _ := strconv.Atoi(list[2].text)
	to, _ := strconv.Atoi(list[4].text)
	for i := from; i <= to; i++ {
		c.step()
		c.names[list[1].text] = int64(i)
		c.do(list[6:end])
	}
	return end + 1
}

// wantedOfPaint is for scenes whose sides and texels may be.
func wantedOfPaint(s api.Scene) (r api.Result, e api.Errno, at int) {
	if e, at := wantedOfCheck(s.Source); e != api.OK {
		return api.Result{}, e, at
	}
	list, _ := pieces(s.Source)
	declared, _, count := declarations(list)
	c := canvas{scene: s, first: make([]int, s.W*s.H), second: make([]int, s.W*s.H)}
	defer func() {
		if problem := recover(); problem == (tooManySteps{}) {
			r, e, at = api.Result{}, api.ErrSteps, 0
		} else if problem != nil {
			panic(problem)
		}
	}()
	for i := range s.W * s.H {
		c.column, c.row = i%s.W, i/s.W
		c.names = map[string]int64{"x": int64(c.column), "y": int64(c.row)}
		for _, d := range declared {
			c.names[d.text] = 0
		}
		c.do(list[count:])
	}
	told := c.touches[:min(len(c.touches), 100)]
	return api.Result{Open: c.first, Hidden: c.second, Steps: c.steps, Touched: len(c.touches), Trace: told}, api.OK, 0
}
