package program

import (
	"iter"
	"slices"

	"sable/api"
)

// Kind tells tokens apart, and the runes that they are made of.
type Kind int

const (
	none  Kind = iota // of a rune that begins no token
	blank             // of one that stands between tokens
	Word
	Number
	Sign
	End // of a token behind the last one, so that there is always a next one
)

// A Token has the place of its first byte, and the one of the other fields that its kind names.
type Token struct {
	Kind   Kind
	Place  int
	Word   string
	Number int32
	Sign   rune
}

func (t Token) isWord(words ...string) bool {
	return t.Kind == Word && slices.Contains(words, t.Word)
}

func (t Token) isSign(signs ...rune) bool {
	return t.Kind == Sign && slices.Contains(signs, t.Sign)
}

func (t Token) isName() bool {
	return t.Kind == Word && !t.isWord("open", "hidden", "if", "else", "for", "out", "hide", "sel", "min", "max", "peek", "spy")
}

// runes tells the runes of a source with their places.
// Bytes that are no UTF-8 come one by one, as a rune that is no sign.
func runes(source string) iter.Seq2[int, rune] {
	return func(yield func(int, rune) bool) {
		for at, r := range source {
			if !yield(at, r) {
				return
			}
		}
	}
}

func kindOf(r rune) Kind {
	switch r {
	case ' ', '\n':
		return blank
	case '←', '…', '×', '÷', '≤', '≠', '+', '-', '=', '<', '(', ')', '{', '}', '[', ']', ',', ';':
		return Sign
	}
	switch {
	case 'a' <= r && r <= 'z':
		return Word
	case '0' <= r && r <= '9':
		return Number
	}
	return none
}

// scan gives the tokens of a source, the end among them.
func scan(source string) ([]Token, fault) {
	var list []Token
	before := blank
	for at, r := range runes(source) {
		kind := kindOf(r)
		if kind == none {
			return nil, fault{api.ErrToken, at}
		}
		if kind == Sign || kind != blank && kind != before {
			list = append(list, Token{Kind: kind, Place: at})
		}
		if kind != blank {
			last := &list[len(list)-1]
			last.add(r)
			// Told at once: with a few digits more the number would wrap round.
			if last.Number > api.MaxNumber {
				return nil, fault{api.ErrToken, last.Place}
			}
		}
		before = kind
	}
	return append(list, Token{Kind: End, Place: len(source)}), fault{}
}

func (t *Token) add(r rune) {
	switch t.Kind {
	case Word:
		t.Word += string(r)
	case Number:
		t.Number = 10*t.Number + r - '0'
	case Sign:
		t.Sign = r
	}
}
