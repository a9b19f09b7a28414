package sable_test

import (
	"regexp"
	"slices"
	"strconv"
	"strings"

	"sable/api"
)

// What Check ought to answer, worked out in other ways than the program's: tokens by a regular
// expression, the grammar by sets of all that may be under way (Earley's), names and what is
// hidden by stretches of tokens, without a tree.

type piece struct {
	text, kind string
	at         int
}

const keywords = "open hidden if else for out hide sel min max peek spy"

const signs = "← … × ÷ ≤ ≠ + - = < ( ) { } [ ] , ;"

var onePiece = regexp.MustCompile(`^(?:[a-z]+|[0-9]+|[←…×÷≤≠+\-=<(){}\[\],;])`)

func pieces(source string) ([]piece, int) {
	var list []piece
	for at := 0; at < len(source); {
		if source[at] == ' ' || source[at] == '\n' {
			at++
			continue
		}
		text := onePiece.FindString(source[at:])
		kind := text
		switch {
		case text == "":
			return nil, at
		case text[0] >= '0' && text[0] <= '9':
			kind = "NUMBER"
			if n, err := strconv.ParseUint(text, 10, 64); err != nil || n > 65535 {
				return nil, at
			}
		case text[0] >= 'a' && text[0] <= 'z' && !slices.Contains(strings.Fields(keywords), text):
			kind = "NAME"
		}
		list = append(list, piece{text, kind, at})
		at += len(text)
	}
	return list, -1
}

// The document's grammar, its repetitions and choices written out.
const grammar = `
source = declarations statements
declarations =
declarations = declared declarations
declared = open names ;
declared = hidden names ;
names = NAME
names = NAME , names
statements =
statements = statement statements
statement = NAME ← expr ;
statement = if expr block
statement = if expr block else block
statement = for NAME NUMBER … NUMBER block
statement = out expr ;
statement = hide expr ;
block = { statements }
expr = sum
expr = sum = sum
expr = sum ≠ sum
expr = sum < sum
expr = sum ≤ sum
sum = term
sum = sum + term
sum = sum - term
term = factor
term = term × factor
term = term ÷ factor
factor = NUMBER
factor = NAME
factor = ( expr )
factor = - factor
factor = peek [ expr , expr ]
factor = spy [ expr , expr ]
factor = sel ( expr , expr , expr )
factor = min ( expr , expr )
factor = max ( expr , expr )
`

type rule struct {
	left  string
	right []string
}

var rules = func() []rule {
	var list []rule
	for _, line := range strings.Split(strings.TrimSpace(grammar), "\n") {
		words := strings.Fields(line)
		list = append(list, rule{words[0], words[2:]})
	}
	return list
}()

// under is a rule of which the first done parts have been seen, from the tokens' number since on.
type under struct{ rule, done, since int }

// ways is, for each number of tokens, all rules that may be under way behind them.
type ways [][]under

func firstWays() ways { return closed(ways{}, []under{{0, 0, 0}}) }

// closed adds to w a further set: these, and all that follow from them.
func closed(w ways, set []under) ways {
	here := len(w)
	w = append(w[:here:here], nil)
	seen := map[under]bool{}
	// A rule without a right side ends where it begins: what waits for it may come later than it.
	ended := map[string]bool{}
	for len(set) > 0 {
		u := set[0]
		set = set[1:]
		if seen[u] {
			continue
		}
		seen[u] = true
		w[here] = append(w[here], u)
		r := rules[u.rule]
		if u.done == len(r.right) {
			if u.since == here {
				ended[r.left] = true
			}
			for _, v := range w[u.since] {
				if right := rules[v.rule].right; v.done < len(right) && right[v.done] == r.left {
					set = append(set, under{v.rule, v.done + 1, v.since})
				}
			}
			continue
		}
		if ended[r.right[u.done]] {
			set = append(set, under{u.rule, u.done + 1, u.since})
		}
		for i, n := range rules {
			if n.left == r.right[u.done] {
				set = append(set, under{i, 0, here})
			}
		}
	}
	return w
}

// then is w behind one more token; false if no source goes on so.
func (w ways) then(kind string) (ways, bool) {
	var set []under
	for _, u := range w[len(w)-1] {
		if right := rules[u.rule].right; u.done < len(right) && right[u.done] == kind {
			set = append(set, under{u.rule, u.done + 1, u.since})
		}
	}
	if len(set) == 0 {
		return nil, false
	}
	return closed(w, set), true
}

func (w ways) mayEnd() bool {
	return slices.Contains(w[len(w)-1], under{0, len(rules[0].right), 0})
}

func wrongSyntax(source string, list []piece) int {
	w := firstWays()
	for _, p := range list {
		next, ok := w.then(p.kind)
		if !ok {
			return p.at
		}
		w = next
	}
	if !w.mayEnd() {
		return len(source)
	}
	return -1
}

// declarations gives the names that are declared, the hidden ones among them, and how many tokens that takes.
func declarations(list []piece) (all, hidden []piece, count int) {
	for count < len(list) && (list[count].text == "open" || list[count].text == "hidden") {
		word := list[count].text
		for ; list[count].text != ";"; count++ {
			if list[count].kind == "NAME" {
				all = append(all, list[count])
				if word == "hidden" {
					hidden = append(hidden, list[count])
				}
			}
		}
		count++
	}
	return all, hidden, count
}

func texts(list []piece) []string {
	var out []string
	for _, p := range list {
		out = append(out, p.text)
	}
	return out
}

func wrongName(list []piece) int {
	all, _, count := declarations(list)
	fixed := []string{"x", "y"}
	for i, p := range all {
		if len(p.text) > 6 || slices.Contains(append(texts(all[:i]), fixed...), p.text) {
			return p.at
		}
	}
	declared := texts(all)
	loops := []string{}
	pending := ""
	for i := count; i < len(list); i++ {
		p := list[i]
		there := slices.Contains(slices.Concat(declared, fixed, loops), p.text)
		switch {
		case p.text == "{":
			loops = append(loops, pending)
			pending = ""
		case p.text == "}":
			loops = loops[:len(loops)-1]
		case p.kind != "NAME":
		case list[i-min(i, 1)].text == "for":
			if there || len(p.text) > 6 {
				return p.at
			}
			first, _ := strconv.Atoi(list[i+1].text)
			second, _ := strconv.Atoi(list[i+3].text)
			if first > second || second > 20 {
				return list[i+1].at
			}
			pending = p.text
		case list[i+1].text == "←":
			if !slices.Contains(declared, p.text) {
				return p.at
			}
		case !there:
			return p.at
		}
	}
	return -1
}

func wrongFlow(list []piece) int {
	all, hiddenPieces, count := declarations(list)
	declared, hidden := texts(all), texts(hiddenPieces)
	hiddenUpTo := func(from int, end string) bool {
		for _, p := range list[from:] {
			if p.text == end {
				return false
			}
			if p.text == "spy" || slices.Contains(hidden, p.text) {
				return true
			}
		}
		return false
	}
	hiddenInBrackets := func(from int) bool {
		depth := 0
		for _, p := range list[from:] {
			switch {
			case p.text == "[":
				depth++
			case p.text == "]":
				depth--
			case p.text == "spy" || slices.Contains(hidden, p.text):
				return true
			}
			if depth == 0 {
				return false
			}
		}
		return false
	}
	for i := count; i < len(list); i++ {
		p := list[i]
		wrong := false
		switch {
		case p.text == "out":
			wrong = hiddenUpTo(i+1, ";")
		case p.text == "if":
			wrong = hiddenUpTo(i+1, "{")
		case p.text == "peek" || p.text == "spy":
			wrong = hiddenInBrackets(i + 1)
		case slices.Contains(declared, p.text) && list[i+1].text == "←":
			wrong = !slices.Contains(hidden, p.text) && hiddenUpTo(i+2, ";")
		}
		if wrong {
			return p.at
		}
	}
	return -1
}

func wantedOfCheck(source string) (api.Errno, int) {
	if len(source) > 300 {
		return api.ErrLong, 0
	}
	list, at := pieces(source)
	if at >= 0 {
		return api.ErrToken, at
	}
	if at := wrongSyntax(source, list); at >= 0 {
		return api.ErrSyntax, at
	}
	if at := wrongName(list); at >= 0 {
		return api.ErrName, at
	}
	if at := wrongFlow(list); at >= 0 {
		return api.ErrFlow, at
	}
	return api.OK, 0
}
