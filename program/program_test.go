package program

import (
	"slices"
	"strconv"
	"strings"
	"testing"

	"sable/api"
)

func TestRunesWithTheirPlaces(t *testing.T) {
	var places []int
	var list []rune
	for at, r := range runes("a←é…\xff\xe2\x86𝄞b") {
		places = append(places, at)
		list = append(list, r)
	}
	if !slices.Equal(places, []int{0, 1, 4, 6, 9, 10, 11, 12, 16}) || string(list) != "a←é…\ufffd\ufffd\ufffd𝄞b" {
		t.Errorf("P4: runes at %v: %q", places, list)
	}
}

func TestRunesEndWhereTheyAreLeft(t *testing.T) {
	count := 0
	for range runes("abcdef") {
		count++
		if count == 3 {
			break
		}
	}
	if count != 3 {
		t.Errorf("P4: %d runes were told, want 3", count)
	}
}

// text writes a tree with a bracket around each part, so that its order can be seen.
func text(e Expr) string {
	out := e.Head.Word
	switch e.Head.Kind {
	case Number:
		out = strconv.Itoa(int(e.Head.Number))
	case Sign:
		out = string(e.Head.Sign)
	}
	if len(e.Operands) == 0 {
		return out
	}
	for _, o := range e.Operands {
		out += " " + text(o)
	}
	return "(" + out + ")"
}

func textOf(list []Statement) string {
	var out strings.Builder
	for _, s := range list {
		switch s := s.(type) {
		case Assign:
			out.WriteString(s.Name.Word + " ← " + text(s.Value))
		case If:
			out.WriteString("if " + text(s.Condition) + " {" + textOf(s.Then) + "} {" + textOf(s.Else) + "}")
		case For:
			out.WriteString("for " + s.Name.Word + " " + strconv.Itoa(int(s.First.Number)) + " " + strconv.Itoa(int(s.Last.Number)) + " {" + textOf(s.Body) + "}")
		case Put:
			out.WriteString(s.Word.Word + " " + text(s.Value))
		}
		out.WriteString(";")
	}
	return out.String()
}

func TestTreeOfExpressions(t *testing.T) {
	for source, want := range map[string]string{
		"1":                           "1",
		"007":                         "7",
		"65535":                       "65535",
		"((x))":                       "x",
		"1 + 2 - 3":                   "(- (+ 1 2) 3)",
		"1 - (2 - 3)":                 "(- 1 (- 2 3))",
		"1 × 2 ÷ 3 × 4":               "(× (÷ (× 1 2) 3) 4)",
		"1 + 2 × 3":                   "(+ 1 (× 2 3))",
		"1 × 2 + 3":                   "(+ (× 1 2) 3)",
		"(1 + 2) × 3":                 "(× (+ 1 2) 3)",
		"1 + 2 < 3 × 4":               "(< (+ 1 2) (× 3 4))",
		"1 = (2 ≠ 3)":                 "(= 1 (≠ 2 3))",
		"1 ≤ 2":                       "(≤ 1 2)",
		"- 1 × 2":                     "(× (- 1) 2)",
		"- - x":                       "(- (- x))",
		"1 - - 2":                     "(- 1 (- 2))",
		"-(1 + 2)":                    "(- (+ 1 2))",
		"sel(1, 2 + 3, y)":            "(sel 1 (+ 2 3) y)",
		"min(1, max(2, 3))":           "(min 1 (max 2 3))",
		"spy[1 - x, peek[x, y] + 2]":  "(spy (- 1 x) (+ (peek x y) 2))",
		"x\n×\n20÷peek[0,0]=y-1+\n2 ": "(= (÷ (× x 20) (peek 0 0)) (+ (- y 1) 2))",
	} {
		tree, e, at := Read("hide " + source + ";")
		if got := textOf(tree.Body); e != api.OK || at != 0 || got != "hide "+want+";" {
			t.Errorf("P4: the tree of %q = %s, %d, %d, want %s", source, got, e, at, want)
		}
	}
}

func TestTreeOfStatements(t *testing.T) {
	const source = "open a, b; hidden h; a ← 1; if a { b ← 2; } if b { out 1; } else { hide h; } for i 3 … 12 { for j 0…1 { out j; } out i; } hide 4;"
	tree, e, at := Read(source)
	if e != api.OK || at != 0 {
		t.Fatalf("P4: Read(%q) = %d, %d", source, e, at)
	}
	const want = "a ← 1;if a {b ← 2;} {};if b {out 1;} {hide h;};for i 3 12 {for j 0 1 {out j;};out i;};hide 4;"
	if got := textOf(tree.Body); got != want {
		t.Errorf("P4: the tree is %s, want %s", got, want)
	}
	var names []string
	for _, d := range tree.Names {
		names = append(names, d.Name.Word+" "+strconv.FormatBool(d.Hidden))
	}
	if !slices.Equal(names, []string{"a false", "b false", "h true"}) {
		t.Errorf("P4: the names are %v", names)
	}
}

func TestNoTreeBesideAnError(t *testing.T) {
	for source, want := range map[string]api.Errno{
		strings.Repeat(" ", 301):         api.ErrLong,
		"open a; out 1; ?":               api.ErrToken,
		"open a; out 1; ;":               api.ErrSyntax,
		"open a; out 1; out b;":          api.ErrName,
		"open a; out 1; out spy[0, 0];":  api.ErrFlow,
		"hidden a; hide 1; if a {} else": api.ErrSyntax,
	} {
		if tree, e, _ := Read(source); e != want || len(tree.Names) != 0 || len(tree.Body) != 0 {
			t.Errorf("P1: Read(%q) = %v, %d, want no tree, %d", source, tree, e, want)
		}
	}
}
