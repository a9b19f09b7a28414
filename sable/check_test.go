package sable_test

import (
	"math/rand/v2"
	"strconv"
	"strings"
	"testing"
	"unicode/utf8"

	"sable/api"
	"sable/sable"
)

func wantCheck(t *testing.T, source string, want api.Errno, at int) {
	t.Helper()
	if e, place := sable.Check(source); e != want || place != at {
		t.Errorf("P4: Check(%q) = %d, %d, want %d, %d", source, e, place, want, at)
	}
}

// wantWrong takes the place from an @ ahead of what is wrong.
func wantWrong(t *testing.T, want api.Errno, marked ...string) {
	t.Helper()
	for _, m := range marked {
		before, behind, found := strings.Cut(m, "@")
		if !found {
			t.Fatalf("no @ in %q", m)
		}
		wantCheck(t, before+behind, want, len(before))
	}
}

func wantRight(t *testing.T, sources ...string) {
	t.Helper()
	for _, s := range sources {
		wantCheck(t, s, api.OK, 0)
	}
}

// wantAsOracle holds Check against what the tests work out themselves, and gives that error.
func wantAsOracle(t *testing.T, source string) api.Errno {
	t.Helper()
	e, at := wantedOfCheck(source)
	wantCheck(t, source, e, at)
	return e
}

func TestCheckOfTheExamples(t *testing.T) {
	wantRight(t,
		"out peek[x, y]; hide spy[1 - x, y];",
		"hidden h; h ← spy[x, y]; hide sel(h < 9, 1, h ÷ 0);",
		"for i 0 … 3 { out i; }",
	)
	wantCheck(t, "out spy[x, y];", api.ErrFlow, 0)
	wantCheck(t, "hidden h; h ← spy[0, 0]; if h { out 1; }", api.ErrFlow, 27)
	wantCheck(t, "open a; a ← spy[0, 0];", api.ErrFlow, 8)
	wantCheck(t, "hide peek[spy[0, 0], 0];", api.ErrFlow, 5)
}

func TestCheckLength(t *testing.T) {
	wantRight(t, "", strings.Repeat(" ", 300), strings.Repeat("\n", 299), strings.Repeat("hide 1;\n", 37)+"    ")
	for _, n := range []int{301, 302, 556, 65536, 65836, 1 << 20} {
		for _, part := range []string{" ", "(", "?", "\xff", "…", "out 1;"} {
			wantCheck(t, strings.Repeat(part, n)[:n], api.ErrLong, 0)
		}
	}
	// Bytes are counted, not runes.
	wantCheck(t, strings.Repeat("…", 100), api.ErrSyntax, 0)
	wantCheck(t, strings.Repeat("…", 101), api.ErrLong, 0)
	wantCheck(t, strings.Repeat(" ", 300)+"é", api.ErrLong, 0)
}

// Each rune by itself, each byte too: blanks, what begins a token, and all others.
func TestCheckOfOneRune(t *testing.T) {
	for r := rune(0); r <= utf8.MaxRune; r++ {
		if !utf8.ValidRune(r) {
			continue
		}
		s := string(r)
		switch {
		case r == ' ' || r == '\n':
			wantRight(t, s)
		case '0' <= r && r <= '9':
			wantCheck(t, s, api.ErrSyntax, 0)
		case 'a' <= r && r <= 'z':
			wantCheck(t, s, api.ErrSyntax, 1)
		case s != " " && strings.Contains(signs, s):
			wantCheck(t, s, api.ErrSyntax, 0)
		default:
			wantCheck(t, s, api.ErrToken, 0)
		}
	}
	for b := 128; b < 256; b++ {
		wantCheck(t, string([]byte{byte(b)}), api.ErrToken, 0)
		wantCheck(t, "out 1;"+string([]byte{byte(b)}), api.ErrToken, 6)
	}
}

func TestCheckTokens(t *testing.T) {
	wantWrong(t, api.ErrToken,
		"out 1; @# out 2; #",
		"out 1@.5;", "out x@'s;", "open a@_b;", "out@\tx;", "out 1;\n@\r\n", "@\ufeffout 1;", "out 1@\u00a0;", "out 1;@\u2028", "@\x00", "@\x7f",
		"a @→ 1;", "out 2 @* 3;", "out 4 @/ 2;", "out 1 @> 2;", "out 1 @≥ 2;", "out 1 @− 2;", "out 1 @· 2;", "for i 1 @.. 2 {}", "out @é;", "out @ａ;", "out @１;", "out @Α;", "out @\u0660;", "out @X;", "@Out 1;", "out@Z 1;",
		// Bytes that are no UTF-8: cut short, too long, a half of a pair, above the last rune, alone.
		"out 1;@\xe2\x86", "out 1 @\xe2\x80;", "@\xc2", "out @\xc1\x81;", "@\xc0\xbb", "@\xe0\x80\xbb", "@\xed\xa0\x80", "@\xf4\x90\x80\x80", "@\xf5", "out 1;@\x90", "a @\x86\x90", "a @\xe2←", "out 1;@\xfe\xff",
		"out @\uFFFD;",
		// A word or a number ends ahead of what is no token.
		"out@A", "out 12@_", "out 12@\xff",
		// All that is wrong but no token is told behind it.
		") ; open x; out spy[0, 0]; out @65536;", "out spy[0, 0]@:", "x@¤",
	)
}

func TestCheckNumbers(t *testing.T) {
	for n := range 70000 {
		s := "out " + strconv.Itoa(n) + ";"
		if n <= 65535 {
			wantRight(t, s)
		} else {
			wantCheck(t, s, api.ErrToken, 4)
		}
	}
	for n := range 290 {
		noughts := strings.Repeat("0", n)
		wantRight(t, "out "+noughts+"65535;", "out "+noughts+"0;")
		wantWrong(t, api.ErrToken, "out @"+noughts+"65536;", "out @6553"+noughts+"55;")
	}
	// Powers of two, at which a number would wrap round.
	wantWrong(t, api.ErrToken, "out @131072;", "out @4294967296;", "out @4294967297;", "out @18446744073709551616;", "out @18446744073709551617;", "out @"+strings.Repeat("9", 295)+";", "out 1 + @100000 + 100001;")
	// Digits go on to the first that is none.
	wantWrong(t, api.ErrSyntax, "out 65535 @1;", "out 1\n@1;")
	wantRight(t, "for i 000 … 00020 {}", "out 65535+65535;")
}

func TestCheckBlanks(t *testing.T) {
	wantRight(t, " \n out \n 1 \n ; \n ", "out1;", "for i1…2{}", "if1{}else{}", "open\na\n,\nb\n;a←1;", "if x{out-1;}else{hide-1;}", "out x×-y;", "out 1×2÷3=4-5;", "hide min(1,2);", "\n\n")
	// Without a blank between them two words are one.
	wantWrong(t, api.ErrSyntax, "outx@;", "open ab @c;", "outpeek@[0, 0];", "hidden@;", "out 1;@1", "fori@1…2{}")
	wantWrong(t, api.ErrName, "out @xy;")
	wantRight(t, "open outx, opena, ifx, forx, elsex; outx ← ifx + forx;")
}

func TestCheckKeywordsAreNoNames(t *testing.T) {
	for _, word := range strings.Fields(keywords) {
		wantWrong(t, api.ErrSyntax, "open @"+word+";", "hidden a, @"+word+";", "for @"+word+" 0…1 {}")
		near := []string{word + "s", "a" + word, word[1:], word[:len(word)-1]}
		for _, n := range near {
			if n != "open" && len(n) <= api.MaxName && n != "x" && n != "y" {
				wantRight(t, "open "+n+"; "+n+" ← "+n+"; for j 0…1 { out "+n+"; }", "for "+n+" 0…1 { out "+n+"; }")
			}
		}
	}
	for _, word := range []string{"if", "else", "for", "out", "hide", "open", "hidden"} {
		wantWrong(t, api.ErrSyntax, "out @"+word+";", "out 1 + @"+word+";")
	}
	for _, word := range []string{"sel", "min", "max", "peek", "spy", "else"} {
		wantWrong(t, api.ErrSyntax, "@"+word+" ← 1;", "out 1; @"+word+" ← 1;", "if 1 { @"+word+" ← 1; }")
	}
}

func TestCheckSyntax(t *testing.T) {
	wantRight(t,
		"open a;", "open a; open b; hidden c, d; open e;", "if x { } else { }", "if 1 { if 2 { } else { } } else { if 3 { } }", "for i 0…0 { for j 0…0 { for k 0…0 { out i + j + k; } } }",
		"out ((1));", "out - - -1;", "out -(1 + -2) × -x;", "out (1 = 2) = (3 ≠ 4);", "out 1 - 1 - 1 + 1;", "out 1 ÷ 1 × 1 ÷ 1;", "out 1 + 2 × 3 < 4 - 5 ÷ 6;", "out sel(1 < 2, 1 ≤ 2, 1 ≠ 2);", "out peek[1 = 2, (3)]; hide spy[min(1, 2), max(1, 2)];",
	)
	wantWrong(t, api.ErrSyntax,
		"@,", "@←", "@(1);", "@[", "@{}", "@{ out 1; }", "@-1;", "@12", "@min(1, 2);",
		"open@", "open @,a;", "open a@", "open a, @,b;", "open a @out 1;", "open a; @;", "open a @← 1;", "open a;out 1;@open b;", "if 1 { @open b; }", "for i 0…1 { @hidden b; }", "open @1;", "open @open a;",
		"out 1;@;", "out 1 @x;", "out x @1;", "out 1@, 2;", "out 1 @← 2;", "a ← b @← 1;", "a @, b ← 1;", "a @- 1;", "a@;", "a @(1);", "a @b ← 1;",
		"if @{}", "if 1 @;", "if 1 {} else @if 1 {}", "if 1 {} @; else {}", "if 1 { out 1 @}", "if 1 { out 1; } @}", "if x @← 1 {}", "if (1 @{}", "if 1 {} else {} @else {}", "if 1 {} out 1; @else {}", "for i 0…1 {} @else {}",
		"for @{}", "for i@", "for i 0@", "for i 0 @, 1 {}", "for i 0…1 @out i;", "for i 0…1@;", "for i @(0)…1 {}", "for i 0…@x {}", "for i @- 1…1 {}", "for i 0 … @… 1 {}", "for i@, j 0…1 {}", "for i 0…1 { @0 }",
		"out 1 ≤ 2 @≤ 3;", "out (1 < 2 @< 3);", "out 1 = 2 + 3 @= 4;", "out peek[1 < 2 @< 3, 0];", "out 1 × @× 2;", "out 1 - @+ 2;", "out 1 + @;", "out @= 1;", "out (@);", "out (1@, 2);", "out (1)@(2);", "out 1@(2);", "out x@(1);", "out 1 @);", "out 1 @];", "out (1@];", "out - -@;",
		"out peek @;", "out peek[@];", "out peek[1, @];", "out peek[@, 1];", "out peek[1, 2@);", "out spy@(1, 2);", "out spy[1 @2];", "out sel@[1, 2, 3];", "out sel(1, 2@];", "out sel(1, 2, 3@];", "out sel(@);", "out sel(1@);", "out min @1;", "out max(1, 2@, 3);", "out max(1, 2@];", "out min(@, 1);", "out min(1, @);", "out peek@{1, 2};",
	)
	// At the source's end it is the length, blanks and all.
	for _, s := range []string{"out", "out 1", "out 1 +", "out (", "out (1", "out -", "open", "open a", "open a,", "hidden a", "a", "a ←", "a ← 1", "if", "if 1", "if 1 {", "if 1 { out 1;", "if 1 {} else", "if 1 {} else {", "for", "for i", "for i 1", "for i 1 …", "for i 1 … 2", "for i 1 … 2 {", "hide", "out peek", "out peek[", "out peek[1", "out peek[1,", "out peek[1, 2", "out peek[1, 2]", "out sel(1, 2,", "out min(1"} {
		for _, blanks := range []string{"", " ", "\n", " \n \n  "} {
			wantCheck(t, s+blanks, api.ErrSyntax, len(s+blanks))
		}
	}
	// Names, loops and what is hidden are looked at behind it.
	wantWrong(t, api.ErrSyntax, "open x, abcdefg; q ← 1; for i 9…1 {} out spy[0, 0]; @;", "out spy[0, 0@;", "for x 30…2 @;")
}

func TestCheckDeepSources(t *testing.T) {
	for n := range 147 {
		open, shut := strings.Repeat("(", n), strings.Repeat(")", n)
		wantRight(t, "out "+open+"1"+shut+";")
		wantWrong(t, api.ErrSyntax, "out "+open+"1"+shut+"@", "out "+open+"@", "out "+open+"1"+shut+"@);", "out ("+open+"1"+shut+"@;")
	}
	for n := range 295 {
		wantRight(t, "out "+strings.Repeat("-", n)+"1;")
		wantWrong(t, api.ErrSyntax, "out "+strings.Repeat("-", n)+"@;")
	}
	for n := range 60 {
		wantRight(t, strings.Repeat("if1{", n)+strings.Repeat("}", n))
		wantWrong(t, api.ErrSyntax, strings.Repeat("if1{", n)+strings.Repeat("}", n)+"@}", strings.Repeat("if1{", n+1)+strings.Repeat("}", n)+"@")
	}
	for n := range 37 {
		wantRight(t, "hide "+strings.Repeat("peek[0,", n)+"0"+strings.Repeat("]", n)+";")
		if n > 0 {
			wantWrong(t, api.ErrFlow, "hide @"+strings.Repeat("spy[0,", n+1)+"0"+strings.Repeat("]", n+1)+";")
		}
	}
}

func TestCheckNames(t *testing.T) {
	wantRight(t,
		"open abcdef; hidden zzzzzz; abcdef ← 1; zzzzzz ← abcdef;", "for abcdef 0…1 { out abcdef; }", "for i 0…1 { out i; } for i 1…2 { out i; }", "for i 0…1 { for j 0…1 { out i + j; } for j 2…3 { out i; } }", "open a; for i 0…1 { a ← i; if i { a ← a; } else { a ← i + x; } }", "open xx, yy, xy; xx ← x; yy ← y;", "for i 20…20 {}", "for i 0…20 {}", "for i 0…0 {}", "open a; out a;", "hidden h; hide h;", "for i 0…1 { if i { for j 0…1 { hide i × j; } } }",
	)
	wantWrong(t, api.ErrName,
		// Declared, or behind for.
		"open @x;", "hidden @y;", "open a, b, @a;", "open a; open @a;", "hidden a; open @a;", "hidden a, @a;", "open @abcdefg;", "open a, @abcdefgh, x;", "hidden @outoutout;", "open "+"a, @"+strings.Repeat("z", 280)+";",
		"for @y 0…1 {}", "for @abcdefg 9…1 {}", "hidden a; for @a 0…1 {}", "for i 0…1 { for j 0…1 { for @i 0…1 {} } }", "for i 0…1 { if 1 {} else { for @i 0…1 {} } }",
		// Others, that are not there.
		"out @a;", "open a; out @b;", "open a; out @aa;", "open aa; out @a;", "hide @h;", "if @a {}", "open b; b ← @a;", "out 1 + (2 × -@a);", "out peek[@a, 1];", "hide spy[1, @a];", "out sel(@a, 1, 2);", "out sel(1, @a, 2);", "out sel(1, 2, @a);", "out min(1, @a);", "out max(@a, 1);", "out 1 < @a;", "out @a ≤ 1;", "if 1 { out @a; }", "if 1 {} else { hide @a; }", "for i 0…1 { out @a; }", "for i 0…1 {} out @i;", "for i 0…1 {} for j 0…1 { out @i; }", "for i 0…1 { for j 0…1 {} out @j; }", "if 1 { for i 0…1 {} out @i; }", "out @abcdefgh;", "out @xx;", "out @yx;",
		// Ahead of ←.
		"@a ← 1;", "open a; @b ← 1;", "@x ← 1;", "@y ← 1;", "for i 0…1 { @i ← 1; }", "for i 0…1 { for j 0…1 { @i ← j; } }", "for i 0…1 {} @i ← 1;", "for i 0…1 { @j ← 1; }", "open a; if 1 { @x ← a; }",
		// The numbers of a for.
		"for i @1…0 {}", "for i @20…19 {}", "for i @0…21 {}", "for i @21…21 {}", "for i @21…20 {}", "for i @65535…0 {}", "for i @0…65535 {}", "for i @0…276 {}", "for i @256…1 {}", "for i 0…1 { for j @3…2 {} }", "for i @00021…20 {}",
		// In the order in which they stand.
		"open a, @x; b ← q;", "@b ← q;", "@x ← q;", "out @p + q;", "open p; out p + @q + r;", "for @x 9…1 { out q; }", "for i @9…1 { out q; }", "for i @9…1 { i ← 1; } out q;", "if @p { out q; } else { out r; }", "open p; if p { out @q; } else { out r; }", "for i 0…1 { out @q; } for j 9…1 {}", "out sel(@p, q, r);", "out peek[x, @p + q];", "for i 0…2 { for j 0…1 { out i; } out @j; out k; }",
		// What is hidden is looked at behind all of them.
		"out spy[0, 0]; if spy[0, 0] { out @q; }", "open a; hidden h; a ← h; for i @2…1 {}", "hide peek[spy[0, 0], @q];", "hidden h; out h; @x ← 1;",
	)
	for first := range 24 {
		for second := range 24 {
			s := "for i " + strconv.Itoa(first) + " … " + strconv.Itoa(second) + " { hide i; }"
			if first <= second && second <= 20 {
				wantRight(t, s)
			} else {
				wantCheck(t, s, api.ErrName, 6)
			}
		}
	}
}

func TestCheckFlow(t *testing.T) {
	wantRight(t,
		"hidden h; h ← 1;", "hidden h; h ← spy[x, y] + h;", "hide spy[peek[0, 0], peek[x, y]];", "hidden h, k; h ← k; k ← h × spy[0, 0]; hide -h + k;", "open a; hidden h; if a { h ← spy[a, a]; } else { hide h; } out a;", "for i 0…1 { hide spy[i, i]; out i; }", "open h; h ← peek[h, h]; out h; if h {}", "hidden h; hide sel(spy[0, 0], h, 1);", "hidden a; open b; b ← 1; a ← b; out b;", "hidden h; if 1 { hide h; } if x { h ← h; }", "hide min(spy[0, 0], max(1, spy[1, 1])) ÷ 2;", "hide spy[0, 0] + peek[0, 0];",
	)
	for _, hidden := range []string{"h", "spy[0, 0]", "h + 1", "1 - h", "h × 0", "0 ÷ h", "-h", "(h)", "1 + (2 × (3 - h))", "h = h", "1 ≠ h", "h < 1", "1 ≤ h", "sel(h, 1, 2)", "sel(1, h, 2)", "sel(1, 2, h)", "min(h, 1)", "min(1, h)", "max(h, 1)", "max(1, spy[1, 1])", "- - spy[x, y]", "peek[h, 0]", "peek[0, h]", "spy[h, 0]", "peek[peek[spy[0, 0], 0], 0]", "sel(1, 2, peek[0, max(0, h)])"} {
		wantWrong(t, api.ErrFlow,
			"hidden h; @out "+hidden+";", "hidden h; @if "+hidden+" {}", "open a; hidden h; @a ← "+hidden+";", "hidden h; hide @peek["+hidden+", 0];", "hidden h; hide @peek[0, "+hidden+"];", "hidden h; hide @spy["+hidden+", 0];", "hidden h; hide @spy[0, "+hidden+"];", "hidden h; h ← 1 + @spy["+hidden+", "+hidden+"];",
			"hidden h; if x { @out "+hidden+"; }", "hidden h; if x {} else { @out "+hidden+"; }", "hidden h; for i 0…1 { @if "+hidden+" {} }", "hidden h; for i 0…1 { if i { hide i + @peek[i, "+hidden+"]; } }",
		)
	}
	wantWrong(t, api.ErrFlow,
		// Which of them is first, is told by the places.
		"open a; hidden h; @a ← peek[h, 0]; out h;", "hidden h; h ← @peek[h, 0]; out h;", "hidden h; @if peek[h, 0] { out h; }", "hide @peek[peek[spy[0, 0], 0], 0];", "hide spy[0, 0] + @peek[spy[0, 0], 0] + peek[spy[0, 0], 0];", "hide sel(spy[0, 0], peek[0, 0], @peek[0, spy[0, 0]]);", "hide peek[0, 0] + @spy[peek[0, 0], spy[0, 0]];", "hidden h; if 1 { hide h; } else { @out h; } out h;", "hidden h; hide spy[0, 0]; hide h; @out h;",
		// What is put into a name does not change it: it is hidden as it was declared.
		"hidden h; h ← 1; @out h;", "hidden h; @out h; h ← 1;", "hidden h; open a; a ← 1; @a ← h;", "open a, b; hidden c; b ← a; @b ← a + c;", "hidden a; open b; hidden c; b ← 1; @b ← c;", "hidden a, b; @if b {}",
	)
}

func TestCheckNameIsHiddenInNoPart(t *testing.T) {
	// A name that begins or ends as a hidden one is another.
	wantRight(t, "hidden h; open hh, ah; hh ← ah; out hh + ah;", "hidden spies; open spyx; out spyx;", "open hid; out hid;")
}

// beginnings tries each token behind a source, and so on behind those that the grammar lets stand there.
func beginnings(t *testing.T, source string, w ways, left int) (count int) {
	t.Helper()
	for _, token := range strings.Fields(keywords + " " + signs + " a 7") {
		kind := token
		switch token {
		case "a":
			kind = "NAME"
		case "7":
			kind = "NUMBER"
		}
		longer := source + token + " "
		next, ok := w.then(kind)
		count++
		if !ok {
			wantCheck(t, longer, api.ErrSyntax, len(source))
			continue
		}
		if e, place := sable.Check(longer); next.mayEnd() == (e == api.ErrSyntax) || e == api.ErrSyntax && place != len(longer) {
			t.Errorf("P4: Check(%q) = %d, %d, may end: %t", longer, e, place, next.mayEnd())
		}
		if left > 1 {
			count += beginnings(t, longer, next, left-1)
		}
	}
	return count
}

func TestCheckEveryBeginning(t *testing.T) {
	if count := beginnings(t, "", firstWays(), 5); count < 10000 {
		t.Errorf("only %d beginnings were tried", count)
	}
	for _, long := range []string{
		"open a , a ; hidden a ; a ← a ; out a ;",
		"if a { } else { } if a { if a { } else { } } else { if a { } } if a { }",
		"for a 7 … 7 { for a 7 … 7 { a ← 7 ; } if a { } } hide 7 ;",
		"out a < 7 + a × - 7 ; out ( a = a ) ≤ a ; out - ( 7 - 7 ÷ 7 ) ≠ 7 ;",
		"out peek [ a , 7 ] + spy [ a < a , ( 7 ) ] ; hide sel ( a , a = 7 , - a ) × min ( a , 7 ) - max ( 7 , a ) ;",
	} {
		w, source := firstWays(), ""
		for _, p := range strings.Fields(long) {
			list, _ := pieces(p)
			w, _ = w.then(list[0].kind)
			source += p + " "
			beginnings(t, source, w, 2)
		}
	}
}

// A writer writes sources that the grammar lets stand.
type writer struct {
	*rand.Rand
	strings.Builder
	names []string
}

func (w *writer) one(list ...string) string { return list[w.IntN(len(list))] }

func (w *writer) name() string {
	if w.IntN(40) == 0 {
		return w.one("x", "y", "q", "abcdefg", "i", "h")
	}
	return w.one(w.names...)
}

func (w *writer) put(words ...string) {
	for _, word := range words {
		w.WriteString(word + w.one(" ", " ", "\n"))
	}
}

func (w *writer) expr(depth int) {
	if depth <= 0 {
		w.put(w.one(w.name(), w.name(), w.one("x", "y"), strconv.Itoa(w.IntN(99))))
		return
	}
	args := func(word, left, right string, count int) {
		w.put(word, left)
		for i := range count {
			if i > 0 {
				w.put(",")
			}
			w.expr(depth - 1 - w.IntN(2))
		}
		w.put(right)
	}
	switch w.IntN(8) {
	case 0:
		args("peek", "[", "]", 2)
	case 1:
		args("spy", "[", "]", 2)
	case 2:
		args("sel", "(", ")", 3)
	case 3:
		args(w.one("min", "max"), "(", ")", 2)
	case 4:
		w.put("-", "(")
		w.expr(depth - 1)
		w.put(")")
	case 5:
		w.put("(")
		w.expr(depth - 1)
		w.put(w.one("=", "≠", "<", "≤"))
		w.expr(depth - 1)
		w.put(")")
	default:
		w.expr(depth - 2)
		w.put(w.one("+", "-", "×", "÷"))
		w.expr(depth - 2)
	}
}

func (w *writer) block(depth int) {
	w.put("{")
	for range w.IntN(3) {
		w.statement(depth - 1)
	}
	w.put("}")
}

func (w *writer) statement(depth int) {
	kind := w.IntN(10)
	switch {
	case kind < 2 && depth > 0:
		w.put("if")
		w.expr(w.IntN(2))
		w.block(depth)
		if w.IntN(2) == 0 {
			w.put("else")
			w.block(depth)
		}
	case kind < 4 && depth > 0:
		loop := w.one("i", "j", "k", "l")
		first := w.IntN(5)
		w.put("for", loop, strconv.Itoa(first), "…", strconv.Itoa(first+w.IntN(17)-1+w.IntN(3)), "")
		before := w.names
		w.names = append(before[:len(before):len(before)], loop)
		w.block(depth)
		w.names = before
	case kind < 6:
		w.put(w.one("a", "b", "g", "h"), "←")
		w.expr(w.IntN(3))
		w.put(";")
	default:
		w.put(w.one("out", "hide", "hide"))
		w.expr(w.IntN(4))
		w.put(";")
	}
}

func writtenSource(r *rand.Rand) string {
	w := writer{Rand: r, names: []string{"a", "b"}}
	w.put("open", "a", ",", "b", ";", "hidden", "g", ",", "h", ";")
	// Most without a hidden name in their expressions: else hardly a source could be.
	if r.IntN(3) == 0 {
		w.names = append(w.names, "g", "h")
	}
	for range 1 + r.IntN(4) {
		w.statement(2)
	}
	return w.String()
}

func TestCheckOfWrittenSources(t *testing.T) {
	r := rand.New(rand.NewPCG(1, 2))
	count := map[api.Errno]int{}
	for range 6000 {
		count[wantAsOracle(t, writtenSource(r))]++
	}
	for _, e := range []api.Errno{api.OK, api.ErrName, api.ErrFlow, api.ErrLong} {
		if count[e] < 100 {
			t.Errorf("only %d sources with the answer %d", count[e], e)
		}
	}
}

// Sources that were right, with some of their runes or bytes lost, doubled or changed.
func TestCheckOfSpoiltSources(t *testing.T) {
	r := rand.New(rand.NewPCG(3, 4))
	parts := append(strings.Fields(keywords+" "+signs), " ", "\n", "x", "i", "h", "a", "9", "0", "65536", "21", "q", "abcdefg", "\xe2", "\x90", "?", "é", "\t")
	count := map[api.Errno]int{}
	for range 6000 {
		s := writtenSource(r)
		for range 1 + r.IntN(2) {
			from := r.IntN(len(s) + 1)
			to := min(len(s), from+r.IntN(4))
			middle := parts[r.IntN(len(parts))]
			if r.IntN(3) == 0 {
				middle = s[from:to] + s[from:to]
			}
			s = s[:from] + middle + s[to:]
		}
		count[wantAsOracle(t, s)]++
	}
	for _, e := range []api.Errno{api.OK, api.ErrToken, api.ErrSyntax, api.ErrName, api.ErrFlow} {
		if count[e] < 100 {
			t.Errorf("only %d sources with the answer %d", count[e], e)
		}
	}
}

func TestCheckDependsOnItsSourceAlone(t *testing.T) {
	sources := []string{"open a; out a;", "out a;", "hidden a; out a;", "for i 0…1 { out i; }", "out i;", "?", "out", strings.Repeat(" ", 301), "out 1;"}
	var first []string
	answer := func(s string) string {
		e, at := sable.Check(s)
		return strconv.Itoa(int(e)) + " " + strconv.Itoa(at)
	}
	for _, s := range sources {
		first = append(first, answer(s))
	}
	for i := range 100 {
		n := i * 7 % len(sources)
		if again := answer(sources[n]); again != first[n] {
			t.Errorf("P2: Check(%q) = %s, then %s", sources[n], first[n], again)
		}
	}
}

func FuzzCheck(f *testing.F) {
	r := rand.New(rand.NewPCG(5, 6))
	for range 50 {
		f.Add(writtenSource(r))
	}
	f.Fuzz(func(t *testing.T, source string) { wantAsOracle(t, source) })
}
