package sable_test

import (
	"math"
	"math/rand/v2"
	"slices"
	"strconv"
	"strings"
	"testing"

	"sable/api"
	"sable/sable"
)

func sameResult(a, b api.Result) bool {
	return slices.Equal(a.Open, b.Open) && slices.Equal(a.Hidden, b.Hidden) && a.Steps == b.Steps && a.Touched == b.Touched && slices.Equal(a.Trace, b.Trace)
}

func wantPaint(t *testing.T, s api.Scene, want api.Result) {
	t.Helper()
	if r, e, at := sable.Paint(s); !sameResult(r, want) || e != api.OK || at != 0 {
		t.Errorf("P5: Paint(%+v) = %+v, %d, %d, want %+v, 0, 0", s, r, e, at, want)
	}
}

func wantPaintError(t *testing.T, s api.Scene, want api.Errno, place int) {
	t.Helper()
	r, e, at := sable.Paint(s)
	if e != want || at != place {
		t.Errorf("P5: Paint(%d by %d, %v, %v, %.80q) = %d, %d, want %d, %d", s.W, s.H, s.Open, s.Hidden, s.Source, e, at, want, place)
	}
	if !sameResult(r, api.Result{}) {
		t.Errorf("P1: Paint(%.80q) = %+v beside error %d", s.Source, r, e)
	}
}

// painted paints a scene that may be.
func painted(t *testing.T, s api.Scene) api.Result {
	t.Helper()
	r, e, at := sable.Paint(s)
	if e != api.OK || at != 0 {
		t.Errorf("P5: Paint(%+v) = error %d, %d", s, e, at)
	}
	if len(r.Open) != s.W*s.H || len(r.Hidden) != s.W*s.H {
		t.Fatalf("P5: Paint(%+v) = pictures of %d and %d tones", s, len(r.Open), len(r.Hidden))
	}
	return r
}

// wantPaintAsOracle holds Paint against what the tests work out themselves, and gives that answer.
func wantPaintAsOracle(t *testing.T, s api.Scene) (api.Result, api.Errno) {
	t.Helper()
	want, e, at := wantedOfPaint(s)
	if e != api.OK {
		wantPaintError(t, s, e, at)
	} else {
		wantPaint(t, s, want)
	}
	return want, e
}

// touches reads a trace from pairs of numbers.
func touches(text string) []api.Touch {
	var list []api.Touch
	words := strings.Fields(text)
	for i := 0; i+1 < len(words); i += 2 {
		where, _ := strconv.Atoi(words[i])
		place, _ := strconv.Atoi(words[i+1])
		list = append(list, api.Touch{Where: where, Place: place})
	}
	return list
}

func TestPaintOfTheExamples(t *testing.T) {
	s := api.Scene{W: 2, H: 1, Open: []int{10, 20}, Hidden: []int{30, 40}, Source: "out peek[x, y]; hide spy[1 - x, y];"}
	wantPaint(t, s, api.Result{Open: []int{50, 71}, Hidden: []int{101, 87}, Steps: 20, Touched: 8, Trace: touches("0 0 2 0 1 1 3 0 0 1 2 1 1 0 3 1")})
	s.Source = "out spy[x, y];"
	wantPaintError(t, s, api.ErrFlow, 0)
	s.Source = "hidden h; h ← spy[0, 0]; if h { out 1; }"
	wantPaintError(t, s, api.ErrFlow, 27)
	s.Source = "open a; a ← spy[0, 0];"
	wantPaintError(t, s, api.ErrFlow, 8)
	s.Source = "hide peek[spy[0, 0], 0];"
	wantPaintError(t, s, api.ErrFlow, 5)
	// Of each point: 2 statements; 3 steps for the texel; 8 for sel and what is in it. Not below 9: 0.
	s.Source = "hidden h; h ← spy[x, y]; hide sel(h < 9, 1, h ÷ 0);"
	wantPaint(t, s, api.Result{Open: []int{0, 0}, Hidden: []int{0, 0}, Steps: 26, Touched: 4, Trace: touches("1 0 3 0 1 1 3 1")})
	s.Hidden = []int{8, 9}
	wantPaint(t, s, api.Result{Open: []int{0, 0}, Hidden: []int{16, 0}, Steps: 26, Touched: 4, Trace: touches("1 0 3 0 1 1 3 1")})
	// The root of 765 is 27.7.
	s.Source = "for i 0 … 3 { out i; }"
	wantPaint(t, s, api.Result{Open: []int{28, 28}, Hidden: []int{0, 0}, Steps: 26, Touched: 8, Trace: touches("2 0 2 0 2 0 2 0 2 1 2 1 2 1 2 1")})
}

func TestPaintOfNothing(t *testing.T) {
	for w := 1; w <= api.MaxSide; w++ {
		for h := 1; h <= api.MaxSide; h++ {
			for _, source := range []string{"", " \n", "open a, b; hidden h;"} {
				s := flat(w, h, 200, source)
				wantPaint(t, s, api.Result{Open: make([]int, w*h), Hidden: make([]int, w*h)})
			}
		}
	}
}

// Each texel at the place that its column and row tell, in pictures of every form.
func TestPaintEverySide(t *testing.T) {
	for w := 1; w <= api.MaxSide; w++ {
		for h := 1; h <= api.MaxSide; h++ {
			s := flat(w, h, 0, "out peek[x, y]; hide spy[x, y];")
			want := api.Result{Steps: 8 * w * h, Touched: 4 * w * h}
			for i := range w * h {
				s.Open[i], s.Hidden[i] = 7*i, 255-7*i
				want.Open = append(want.Open, toneOf(int64(7*i)))
				want.Hidden = append(want.Hidden, toneOf(int64(255-7*i)))
				want.Trace = append(want.Trace, api.Touch{Where: 0, Place: i}, api.Touch{Where: 2, Place: i}, api.Touch{Where: 1, Place: i}, api.Touch{Where: 3, Place: i})
			}
			want.Trace = want.Trace[:min(len(want.Trace), 100)]
			wantPaint(t, s, want)
		}
	}
}

func TestPaintSides(t *testing.T) {
	wrong := []int{0, -1, -6, api.MaxSide + 1, 255, 256, 257, 1 << 31, 1 << 32, 1<<32 + 1, 1 << 62, math.MaxInt, math.MinInt}
	for _, n := range wrong {
		for _, m := range []int{1, 4, api.MaxSide, 0, -1, 1 << 32, 1 << 62, math.MinInt} {
			for _, list := range [][]int{nil, {1}, {1, 2, 3, 4}, {-1}} {
				for _, source := range []string{"", "out 1;", "?", strings.Repeat("?", 301)} {
					wantPaintError(t, api.Scene{W: n, H: m, Open: list, Hidden: list, Source: source}, api.ErrSide, 0)
					wantPaintError(t, api.Scene{W: m, H: n, Open: list, Hidden: list, Source: source}, api.ErrSide, 0)
				}
			}
		}
	}
	wantPaintError(t, api.Scene{}, api.ErrSide, 0)
	wantPaintError(t, flat(7, 1, 1, "out 1;"), api.ErrSide, 0)
	wantPaintError(t, flat(1, 7, 1, "out 1;"), api.ErrSide, 0)
}

func TestPaintTexels(t *testing.T) {
	for _, source := range []string{"out 1;", "?", "out spy[0, 0];", strings.Repeat("?", 301), strings.Repeat("for i 0…20{for j 0…20{for k 0…20{}}}", 2)} {
		for _, list := range [][]int{nil, {}, {1}, {1, 2, 3, 4, 5}, {1, 2, 3, 4, 5, 6, 7}, {-1, 2, 3, 4, 5, 6}, {1, 2, 3, 4, 5, 256}, {1, 2, math.MaxInt, 4, 5, 6}, {1, 2, math.MinInt, 4, 5, 6}, {1, 2, 3, 1 << 32, 5, 6}} {
			s := flat(3, 2, 9, source)
			s.Open = list
			wantPaintError(t, s, api.ErrTexel, 0)
			s = flat(3, 2, 9, source)
			s.Hidden = list
			wantPaintError(t, s, api.ErrTexel, 0)
		}
	}
}

func TestPaintOfWrongSources(t *testing.T) {
	const many = "for i 0…20{for j 0…20{for k 0…20{}}}"
	for _, c := range []struct {
		source string
		e      api.Errno
		at     int
	}{
		{strings.Repeat("?", 301), api.ErrLong, 0},
		{strings.Repeat(" ", 301), api.ErrLong, 0},
		{strings.Repeat("out 1;\n", 43), api.ErrLong, 0},
		{"out ?;", api.ErrToken, 4},
		{"out 65536;", api.ErrToken, 4},
		{"out 1;\xff", api.ErrToken, 6},
		{"out 1;;", api.ErrSyntax, 6},
		{"out 1", api.ErrSyntax, 5},
		{"out 1; out q;", api.ErrName, 11},
		{"for i 3…2 {}", api.ErrName, 6},
		{"hide 1; out spy[0, 0];", api.ErrFlow, 8},
		{"if 0 { out spy[0, 0]; }", api.ErrFlow, 7},
		// Also where it would be done too late, or never.
		{many + "?", api.ErrToken, len(many)},
		{many + ")", api.ErrSyntax, len(many)},
		{many + "out q;", api.ErrName, len(many) + 4},
		{many + "out spy[0, 0];", api.ErrFlow, len(many)},
		{many, api.ErrSteps, 0},
	} {
		wantPaintError(t, flat(2, 3, 9, c.source), c.e, c.at)
	}
}

// minusOne is 4294967295, taken modulo.
const minusOne = "65535 × 65535 + 65535 + 65535"

func TestPaintTones(t *testing.T) {
	for v := range 300 {
		r := painted(t, flat(1, 1, 0, "out "+strconv.Itoa(v)+"; hide "+strconv.Itoa(v)+";"))
		if want := toneOf(int64(v)); r.Open[0] != want || r.Hidden[0] != want {
			t.Errorf("P5: the tone of %d is %d and %d, want %d", v, r.Open[0], r.Hidden[0], want)
		}
	}
	// Worked out by hand: the roots of 255, 510, 765, 32640, 64770 are 15.97, 22.58, 27.66, 180.67, 254.5 (a little below).
	for e, want := range map[string]int{
		"0": 0, "1": 16, "2": 23, "3": 28, "128": 181, "254": 254, "255": 255, "256": 255, "257": 255, "65535": 255, "- 1": 0, "- 255": 0, "- 65535": 0,
		"65535 × 32768 + 32767": 255, "- 65535 × 32768 - 32768": 0,
		// As values of 32 bits these are small, or below 0; and times 255 they would wrap round.
		"65535 × 65535": 0, minusOne + " + 4": 28, "65535 × 128 + 16449": 255, "65535 × 257": 255,
	} {
		r := painted(t, flat(1, 1, 0, "out "+e+"; hide "+e+";"))
		if r.Open[0] != want || r.Hidden[0] != want {
			t.Errorf("P5: the tone of %s is %d and %d, want %d", e, r.Open[0], r.Hidden[0], want)
		}
	}
}

// The last that is put at a point is there; what is put at one point leaves the others as they are.
func TestPaintPuts(t *testing.T) {
	for _, c := range []struct {
		source       string
		open, hidden []int
	}{
		{"out 255; out 1;", []int{16, 16, 16, 16, 16, 16}, make([]int, 6)},
		{"hide 255; hide 1;", make([]int, 6), []int{16, 16, 16, 16, 16, 16}},
		{"out 255; hide 1; out 0;", make([]int, 6), []int{16, 16, 16, 16, 16, 16}},
		{"if x = 1 { out 255; } else { hide 1; }", []int{0, 255, 0, 0, 255, 0}, []int{16, 0, 16, 16, 0, 16}},
		{"if y { out 255; }", []int{0, 0, 0, 255, 255, 255}, make([]int, 6)},
		{"out x + 3 × y;", []int{0, 16, 23, 28, 32, 36}, make([]int, 6)},
		{"hide 2 - x; out y;", []int{0, 0, 0, 16, 16, 16}, []int{23, 16, 0, 23, 16, 0}},
	} {
		r := painted(t, flat(3, 2, 77, c.source))
		if !slices.Equal(r.Open, c.open) || !slices.Equal(r.Hidden, c.hidden) {
			t.Errorf("P5: %s: %v and %v, want %v and %v", c.source, r.Open, r.Hidden, c.open, c.hidden)
		}
	}
}

// literal writes a value by numbers that a source may have.
func literal(v int64) string {
	if v < 0 {
		return "(0 - " + strconv.FormatInt(-v/65535, 10) + " × 65535 - " + strconv.FormatInt(-v%65535, 10) + ")"
	}
	return "(" + strconv.FormatInt(v/65535, 10) + " × 65535 + " + strconv.FormatInt(v%65535, 10) + ")"
}

func wantValue(t *testing.T, e string, v int64) {
	t.Helper()
	s := api.Scene{W: 1, H: 1, Open: []int{200}, Hidden: []int{100}, Source: "hide (" + e + ") = " + literal(v) + ";"}
	if r := painted(t, s); r.Hidden[0] != 16 {
		t.Errorf("P5: %s is not %d", e, v)
	}
}

func TestPaintValues(t *testing.T) {
	for e, v := range map[string]int64{
		"0": 0, "007": 7, "65535": 65535, "((3))": 3,
		"1 + 2 × 3": 7, "(1 + 2) × 3": 9, "7 - 2 - 3": 2, "7 - (2 - 3)": 8, "40 ÷ 2 ÷ 5": 4, "40 ÷ (20 ÷ 5)": 10, "2 × 7 ÷ 4": 3, "7 ÷ 4 × 2": 2,
		"- 5": -5, "- - 5": 5, "3 - - 5": 8, "- 2 × 3": -6, "2 × - 3": -6, "- (2 + 3)": -5, "- 2 + 3": 1,
		"7 ÷ 2": 3, "- 7 ÷ 2": -3, "7 ÷ - 2": -3, "- 7 ÷ - 2": 3, "1 ÷ 2": 0, "- 1 ÷ 2": 0, "- 6 ÷ 3": -2, "0 ÷ 5": 0,
		"7 ÷ 0": 0, "- 7 ÷ 0": 0, "0 ÷ 0": 0, "7 ÷ 0 ÷ 0": 0, "7 ÷ (3 - 3) + 1": 1,
		"1 = 1": 1, "1 = 2": 0, "1 ≠ 1": 0, "1 ≠ 2": 1, "2 < 3": 1, "3 < 3": 0, "4 < 3": 0, "2 ≤ 3": 1, "3 ≤ 3": 1, "4 ≤ 3": 0, "- 1 < 0": 1, "0 < - 1": 0, "- 1 ≤ - 1": 1, "1 + 1 = 2": 1, "(1 < 2) + (2 ≤ 2)": 2,
		"min(3, 2)": 2, "min(2, 3)": 2, "max(3, 2)": 3, "max(2, 3)": 3, "min(- 3, - 2)": -3, "max(- 3, - 2)": -2, "min(4, 4)": 4, "min(1, max(2, 3))": 1,
		"sel(0, 1, 2)": 2, "sel(1, 1, 2)": 1, "sel(- 1, 1, 2)": 1, "sel(65535, 1, 2)": 1, "sel(1 = 2, 1, 2)": 2, "sel(256, 1, 2)": 1, "sel(" + minusOne + " + 1, 1, 2)": 2,
		"x": 0, "y": 0, "peek[0, 0]": 200, "peek[9, - 9]": 200, "spy[- 65535, 65535]": 100, "spy[peek[x, y], y]": 100, "peek[0, 0] - spy[0, 0]": 100,
	} {
		wantValue(t, e, v)
	}
}

func TestPaintWrapsRound(t *testing.T) {
	const least, greatest = -1 << 31, 1<<31 - 1
	low, high := literal(least), literal(greatest)
	for e, v := range map[string]int64{
		low: least, high: greatest,
		high + " + 1": least, "1 + " + high: least, low + " - 1": greatest, high + " + " + high: -2, low + " + " + low: 0, low + " - " + high: 1, high + " - " + low: -1, "0 - " + low: least, "- " + low: least, "- " + high: least + 1, "- (" + low + " + 1)": greatest,
		"65535 × 65535": -131071, "65535 × 65535 × 3": -393213, minusOne: -1, minusOne + " + 1": 0, high + " × 2": -2, low + " × 2": 0, low + " × - 1": least, high + " × " + high: 1, low + " × " + low: 0, low + " × " + high: least, low + " × 3": least,
		low + " ÷ - 1": least, low + " ÷ 1": least, low + " ÷ 2": -1 << 30, low + " ÷ - 2": 1 << 30, low + " ÷ 0": 0, low + " ÷ " + low: 1, low + " ÷ " + high: -1, high + " ÷ " + low: 0, high + " ÷ - 1": -greatest,
		low + " < " + high: 1, high + " < " + low: 0, low + " < 0": 1, "0 < " + high: 1, low + " ≤ " + low: 1, "min(" + low + ", " + high + ")": least, "max(" + low + ", " + high + ")": greatest, "min(" + low + ", 0)": least, low + " = " + high + " + 1": 1,
		"peek[" + low + ", " + high + "]": 200, "spy[" + high + ", " + low + "]": 100, "sel(" + low + ", 1, 2)": 1,
	} {
		wantValue(t, e, v)
	}
}

// What is outside the texels is the nearest of them in its column and its row; the touch tells that place.
func TestPaintTexelsOutside(t *testing.T) {
	open := []int{1, 2, 3, 4, 5, 6}
	hidden := []int{101, 102, 103, 104, 105, 106}
	for _, c := range []struct {
		column, row string
		place       int
	}{
		{"0", "0", 0}, {"1", "0", 1}, {"2", "0", 2}, {"0", "1", 3}, {"1", "1", 4}, {"2", "1", 5},
		{"3", "0", 2}, {"4", "0", 2}, {"65535", "0", 2}, {"- 1", "0", 0}, {"- 65535", "0", 0}, {"0", "2", 3}, {"0", "3", 3}, {"0", "65535", 3}, {"0", "- 1", 0}, {"1", "- 9", 1}, {"1", "9", 4},
		{"9", "9", 5}, {"- 9", "- 9", 0}, {"9", "- 9", 2}, {"- 9", "9", 3}, {minusOne, minusOne, 0}, {minusOne + " + 2", minusOne + " + 2", 4},
	} {
		s := api.Scene{W: 3, H: 2, Open: open, Hidden: hidden, Source: "out peek[" + c.column + ", " + c.row + "]; hide spy[" + c.column + ", " + c.row + "];"}
		r := painted(t, s)
		for i := range 6 {
			if r.Open[i] != toneOf(int64(open[c.place])) || r.Hidden[i] != toneOf(int64(hidden[c.place])) {
				t.Errorf("P5: %s: %v, %v, want the tones of place %d", s.Source, r.Open, r.Hidden, c.place)
				break
			}
		}
		if len(r.Trace) != 24 || r.Trace[0] != (api.Touch{Where: 0, Place: c.place}) || r.Trace[2] != (api.Touch{Where: 1, Place: c.place}) {
			t.Errorf("P5: %s: touches %v, want place %d", s.Source, r.Trace, c.place)
		}
	}
}

func TestPaintSteps(t *testing.T) {
	for _, c := range []struct {
		source string
		steps  int
		trace  string
	}{
		{"out 1;", 2, "2 0"}, {"out x;", 2, "2 0"}, {"out (1);", 2, "2 0"}, {"out (((1)));", 2, "2 0"}, {"out - 1;", 3, "2 0"}, {"out - - (1);", 4, "2 0"}, {"hide 1 + 2;", 4, "3 0"}, {"out 1 - 2 × 3;", 6, "2 0"}, {"out 1 ÷ 0;", 4, "2 0"}, {"out 1 = 2;", 4, "2 0"}, {"out (1 ≤ 2) ≠ (3 < 4);", 8, "2 0"},
		{"out sel(1, 2, 3);", 5, "2 0"}, {"out sel(0, 2 + 2, 3);", 7, "2 0"}, {"out sel(1, 2, 3 + 3);", 7, "2 0"}, {"out min(1, 2);", 4, "2 0"}, {"out max(1, - 2);", 5, "2 0"}, {"out 0 × (1 + 2);", 6, "2 0"},
		{"out peek[0, 0];", 4, "0 0 2 0"}, {"hide spy[0, 0];", 4, "1 0 3 0"}, {"out peek[peek[0, 0], 0];", 6, "0 0 0 0 2 0"},
		{"open a; a ← 1;", 2, ""}, {"open a, b; hidden h, g; h ← a + b;", 4, ""}, {"hidden h; h ← spy[0, 0];", 4, "1 0"},
		{"if 1 { }", 2, ""}, {"if 0 { out 1; }", 2, ""}, {"if 1 { out 1; }", 4, "2 0"}, {"if - 1 { out 1; }", 5, "2 0"}, {"if 1 { out 1; } else { hide 2; hide 3; }", 4, "2 0"}, {"if 0 { out 1; } else { hide 2; hide 3; }", 6, "3 0 3 0"}, {"if 256 { out 1; } else { hide 2; }", 4, "2 0"}, {"if 1 < 2 { if 2 < 1 { } else { out 1; } }", 10, "2 0"},
		{"for i 0 … 3 { }", 5, ""}, {"for i 0 … 0 { }", 2, ""}, {"for i 20 … 20 { out i; }", 4, "2 0"}, {"for i 0 … 20 { }", 22, ""}, {"for i 1 … 3 { hide i; }", 10, "3 0 3 0 3 0"}, {"for i 0…1 { for j 0…1 { hide i; } }", 17, "3 0 3 0 3 0 3 0"}, {"for i 0…2 { if i = 1 { out i; } }", 18, "2 0"},
	} {
		wanted := touches(c.trace)
		r := painted(t, flat(1, 1, 9, c.source))
		if r.Steps != c.steps || r.Touched != len(wanted) || !slices.Equal(r.Trace, wanted) {
			t.Errorf("P5: %s: %d steps, %d touches, %v, want %d, %d, %v", c.source, r.Steps, r.Touched, r.Trace, c.steps, len(wanted), wanted)
		}
		// Three points have three times as many.
		r = painted(t, flat(1, 3, 9, c.source))
		if r.Steps != 3*c.steps || r.Touched != 3*len(wanted) {
			t.Errorf("P5: %s at three points: %d steps, %d touches", c.source, r.Steps, r.Touched)
		}
	}
}

// Operands from the left, then the touch; and what is put, behind all of them.
func TestPaintOrderOfTouches(t *testing.T) {
	for _, c := range []struct{ declared, body, trace string }{
		{"", "out peek[0, 0] + peek[1, 0] × peek[2, 0];", "0 0 0 1 0 2 2 0"},
		{"", "out peek[2, 0] < peek[1, 0] - peek[0, 0];", "0 2 0 1 0 0 2 0"},
		{"", "hide sel(peek[0, 0], spy[1, 0], peek[2, 0]);", "0 0 1 1 0 2 3 0"},
		{"", "hide sel(spy[1, 0], peek[2, 0], spy[2, 0]);", "1 1 0 2 1 2 3 0"},
		{"", "hide min(spy[0, 0], max(spy[1, 0], peek[0, 0])) - spy[2, 0];", "1 0 1 1 0 0 1 2 3 0"},
		{"", "hide spy[peek[1, 0] - peek[1, 0], peek[2, 0]];", "0 1 0 1 0 2 1 0 3 0"},
		{"", "hide spy[peek[peek[0, 0], 0] - peek[1, 0], 0];", "0 0 0 2 0 1 1 2 3 0"},
		{"", "out 0; hide 0; out 0;", "2 0 3 0 2 0"},
		{"", "if peek[0, 0] = 0 { out peek[2, 0]; } else { hide spy[2, 0]; } out 1;", "0 0 1 2 3 0 2 0"},
		{"", "if peek[0, 0] ≠ 0 { out peek[2, 0]; } else { hide spy[2, 0]; } hide 1;", "0 0 0 2 2 0 3 0"},
		{"", "for i 0 … 2 { hide spy[2 - i, 0]; }", "1 2 3 0 1 1 3 0 1 0 3 0"},
		{"open a;", "for i 1 … 2 { a ← a + i; out peek[a - 2, 0]; }", "0 0 2 0 0 1 2 0"},
		{"hidden h;", "h ← spy[1, 0]; hide h; h ← peek[2, 0]; hide h + spy[x, y];", "1 1 3 0 0 2 1 0 3 0"},
		{"", "out - peek[0, 0]; hide (- (spy[1, 0])); out (peek[2, 0]) ÷ (peek[0, 0]);", "0 0 2 0 1 1 3 0 0 2 0 0 2 0"},
		{"", "hide 0 × spy[0, 0]; hide spy[1, 0] ÷ 0; hide sel(1, 1, spy[2, 0]); out 1;", "1 0 3 0 1 1 3 0 1 2 3 0 2 0"},
	} {
		// At the first point alone: the others would tell the same once more.
		s := api.Scene{W: 3, H: 1, Open: []int{7, 1, 9}, Hidden: []int{4, 0, 6}, Source: c.declared + "if x = 0 {" + c.body + "}"}
		r := painted(t, s)
		if wanted := touches(c.trace); !slices.Equal(r.Trace, wanted) || r.Touched != len(wanted) {
			t.Errorf("P5: %s: touches %v, want %v", s.Source, r.Trace, wanted)
		}
	}
}

func TestPaintTrace(t *testing.T) {
	for _, c := range []struct{ puts, rounds int }{{1, 1}, {3, 20}, {5, 19}, {9, 11}, {5, 20}, {10, 10}, {6, 17}, {14, 20}} {
		count := c.puts * c.rounds
		s := flat(1, 1, 0, "for i 1 … "+strconv.Itoa(c.rounds)+" {"+strings.Repeat("hide i; ", c.puts)+"}")
		r := painted(t, s)
		if r.Touched != count || len(r.Trace) != min(count, 100) {
			t.Errorf("P5: %s: %d touches, %d of them told, want %d", s.Source, r.Touched, len(r.Trace), count)
		}
	}
	// Those that are told are the first, over the points' borders too: 3 a point.
	s := flat(6, 6, 0, "out 1; hide spy[5 - x, 5 - y];")
	r := painted(t, s)
	if r.Touched != 108 || len(r.Trace) != 100 {
		t.Fatalf("P5: %s: %d touches, %d of them told", s.Source, r.Touched, len(r.Trace))
	}
	for i, touch := range r.Trace {
		want := []api.Touch{{Where: 2, Place: i / 3}, {Where: 1, Place: 35 - i/3}, {Where: 3, Place: i / 3}}[i%3]
		if touch != want {
			t.Errorf("P5: touch %d is %v, want %v", i, touch, want)
		}
	}
}

func TestPaintNames(t *testing.T) {
	for _, c := range []struct {
		source string
		want   []int
	}{
		// At each point all names are 0 again.
		{"open a; a ← a + 1; out a;", []int{16, 16, 16, 16}},
		{"open a; out a; a ← 255;", []int{0, 0, 0, 0}},
		{"open a, b; if x { a ← 255; } b ← a; out b;", []int{0, 255, 0, 255}},
		{"open a; a ← x; a ← a + a; a ← a × a + y; out a;", []int{0, 32, 16, 36}},
		// Of two names each keeps its own value.
		{"open a, b, ab; a ← 1; b ← 2; ab ← 3; out a × 100 + b × 10 + ab;", []int{177, 177, 177, 177}},
		{"open a; hidden h; h ← 9; a ← 1; h ← h + a; out a;", []int{16, 16, 16, 16}},
		// That of a for has its numbers in turn, and one behind it may have it again.
		{"open a; for i 3 … 5 { a ← a × 6 + i; } out a - 120;", []int{66, 66, 66, 66}},
		{"open a; for i 1 … 2 { a ← a + i; } for i 5 … 5 { a ← a × i; } out a;", []int{62, 62, 62, 62}},
		{"open a; for i 1 … 3 { for j 1 … 3 { a ← a + i × j; } a ← a + i; } out a;", []int{103, 103, 103, 103}},
		{"open a; for i 0 … 3 { if i = x { a ← a + 1; } if i = y { a ← a + 2; } } out a;", []int{28, 28, 28, 28}},
		{"open xx; xx ← x + 1; out xx + y;", []int{16, 23, 23, 28}},
		{"open outer, spying; outer ← 1; spying ← 2; out outer + spying;", []int{28, 28, 28, 28}},
	} {
		r := painted(t, flat(2, 2, 3, c.source))
		if !slices.Equal(r.Open, c.want) {
			t.Errorf("P5: %s: %v, want %v", c.source, r.Open, c.want)
		}
	}
}

// These have 41 + 400 · 49 + 341 = 19982 steps.
const nearMaxSteps = "for i 1…20{for j 1…20{hide 1+1+1+1+1+1+1+1+1+1+1+1+1+1+1+1+1+1+1+1+1+1+1+1;}}for i 1…20{for j 1…15{}}"

func TestPaintMaxSteps(t *testing.T) {
	for _, c := range []struct {
		tail  string
		steps int
	}{
		{"", 0}, {"for i 1…16{}", 17}, {"for i 1…17{}", 18}, {"for i 1…18{}", 19}, {"for i 1…20{}", 21},
		// The step too many may be a statement, a number, a name, an operator, a call, a round; the last one or not.
		{"for i 1…15{}out 1;", 18}, {"for i 1…16{}out 1;", 19}, {"for i 1…16{}out x;", 19}, {"for i 1…17{}out 1;", 20}, {"for i 1…14{}out-1;", 18}, {"for i 1…15{}out-1;", 19}, {"for i 1…13{}out 1+1;", 18}, {"for i 1…14{}out 1+1;", 19}, {"for i 1…13{}out peek[0,0];", 18}, {"for i 1…14{}out peek[0,0];", 19}, {"for i 1…12{}hide sel(1,2,3);", 18}, {"for i 1…13{}hide sel(1,2,3);", 19},
		{"for i 1…17{}for i 1…1{}", 20}, {"for i 1…15{}for i 1…1{}", 18}, {"for i 1…16{}for i 1…1{}", 19}, {"for i 1…15{}if 1{}", 18}, {"for i 1…16{}if 1{}", 19}, {"for i 1…17{}if 1{}", 20}, {"for i 1…13{}if 1{out 1;}", 18}, {"for i 1…14{}if 1{out 1;}", 19},
	} {
		s := flat(1, 1, 5, nearMaxSteps+c.tail)
		want, e, _ := wantedOfPaint(s)
		if c.steps > 18 {
			if e != api.ErrSteps {
				t.Errorf("%s: %d, want too many steps", c.tail, e)
			}
			wantPaintError(t, s, api.ErrSteps, 0)
		} else {
			if want.Steps != 19982+c.steps {
				t.Errorf("%s: %d steps, want %d", c.tail, want.Steps, 19982+c.steps)
			}
			wantPaint(t, s, want)
		}
	}
}

// The steps of all points are counted together: 5000 at each of four are not too many, one more is.
func TestPaintMaxStepsOfAllPoints(t *testing.T) {
	// 4441, 441 and 109 steps; with 9 more 5000.
	const most = "for i 1…20{for j 1…20{hide 1+1+1+1+1;}}for i 1…20{for j 1…20{}}for i 1…6{for j 1…16{}}"
	s := flat(2, 2, 1, most+"for i 1…8{}")
	if r := painted(t, s); r.Steps != 20000 || r.Touched != 1600 {
		t.Errorf("P5: %s: %d steps, %d touches, want 20000, 1600", s.Source, r.Steps, r.Touched)
	}
	s.Source = most + "for i 1…8{}if x{if y{}}"
	wantPaintError(t, s, api.ErrSteps, 0)
	s.Source = most + "for i 1…9{}"
	wantPaintError(t, s, api.ErrSteps, 0)
	// Of less wide pictures it is not too much.
	s.W, s.Open, s.Hidden = 1, s.Open[:2], s.Hidden[:2]
	if r := painted(t, s); r.Steps != 10002 {
		t.Errorf("P5: %s: %d steps, want 10002", s.Source, r.Steps)
	}
	// Too many at the last point alone.
	for _, where := range []string{"x=0", "x=5"} {
		for _, height := range []int{1, 6} {
			s = flat(6, height, 1, "if "+where+"{if y="+strconv.Itoa(height-1)+"{for i 0…20{for j 0…20{for k 0…20{for l 0…20{}}}}}}")
			wantPaintError(t, s, api.ErrSteps, 0)
		}
	}
}

func TestPaintEnds(t *testing.T) {
	for _, body := range []string{"", "out 1;", "a←a+1;", "if 0{out 1;}"} {
		source := "open a;"
		depth := 0
		for name := 'b'; len(source)+len(body)+depth+14 <= api.MaxSource && name < 'x'; name++ {
			source += "for " + string(name) + " 0…20{"
			depth++
		}
		source += body + strings.Repeat("}", depth)
		wantPaintError(t, flat(1, 1, 0, source), api.ErrSteps, 0)
		wantPaintError(t, flat(6, 6, 0, source), api.ErrSteps, 0)
	}
	// Deep ones, that the grammar lets stand.
	for _, s := range []string{"out " + strings.Repeat("-", 294) + "1;", "out " + strings.Repeat("(", 147) + "1" + strings.Repeat(")", 147) + ";", strings.Repeat("if1{", 60) + strings.Repeat("}", 60), "out " + strings.Repeat("peek[0,", 36) + "0" + strings.Repeat("]", 36) + ";", "out " + strings.Repeat("1-", 146) + "1;"} {
		if _, e := wantPaintAsOracle(t, flat(6, 6, 9, s)); e != api.OK {
			t.Errorf("%s: %d", s, e)
		}
	}
}

func TestPaintWritesIntoNothing(t *testing.T) {
	for _, source := range []string{"out 255; hide 255;", "out peek[x, y]; hide spy[y, x];", "?", nearMaxSteps} {
		open := []int{1, 2, 3, 4, 77, 78}
		hidden := []int{5, 6, 7, 8, 79, 80}
		s := api.Scene{W: 2, H: 2, Open: open[:4], Hidden: hidden[:4], Source: source}
		first, e, at := sable.Paint(s)
		for _, list := range [][]int{first.Open, first.Hidden} {
			for i := range list {
				list[i] = 99
			}
			_ = append(list, 99, 99)
		}
		for i := range first.Trace {
			first.Trace[i] = api.Touch{Where: 99, Place: 99}
		}
		if !slices.Equal(open, []int{1, 2, 3, 4, 77, 78}) || !slices.Equal(hidden, []int{5, 6, 7, 8, 79, 80}) || s.W != 2 || s.H != 2 || s.Source != source {
			t.Errorf("P2: the scene became %+v, %v, %v", s, open, hidden)
		}
		want, wantE, wantAt := wantedOfPaint(s)
		if again, e2, at2 := sable.Paint(s); !sameResult(again, want) || e2 != wantE || at2 != wantAt || e != wantE || at != wantAt {
			t.Errorf("P2: Paint(%+v) = %+v, %d, %d the second time", s, again, e2, at2)
		}
	}
}

func TestPaintGivesNewMemory(t *testing.T) {
	list := []int{10, 20, 30, 40}
	s := api.Scene{W: 2, H: 2, Open: list, Hidden: list, Source: "out peek[x, y]; hide spy[1 - x, y];"}
	one, two := painted(t, s), painted(t, s)
	want, _, _ := wantedOfPaint(s)
	one.Open[0], one.Open[3] = 1000, 1001
	_ = append(one.Open, 1002, 1003, 1004, 1005)
	if !slices.Equal(one.Hidden, want.Hidden) {
		t.Errorf("P2: the hidden picture changed with the open one: %v", one.Hidden)
	}
	one.Hidden[0], one.Hidden[3] = 2000, 2001
	_ = append(one.Hidden, 2002, 2003, 2004, 2005)
	if !slices.Equal(one.Open, []int{1000, want.Open[1], want.Open[2], 1001}) {
		t.Errorf("P2: the open picture changed with the hidden one: %v", one.Open)
	}
	one.Trace[0] = api.Touch{Where: 9, Place: 9}
	if !sameResult(two, want) {
		t.Errorf("P2: an answer changed with another one: %+v, want %+v", two, want)
	}
	list[0] = 200
	if !sameResult(two, want) {
		t.Errorf("P2: an answer changed with the scene: %+v, want %+v", two, want)
	}
}

// An author writes sources in which what is hidden stands only where it may.
type author struct {
	*rand.Rand
	loops []string
}

func (a *author) one(list ...string) string { return list[a.IntN(len(list))] }

func (a *author) number() string {
	return a.one("0", "1", "2", "3", strconv.Itoa(a.IntN(300)), strconv.Itoa(a.IntN(65536)), "65535")
}

func (a *author) expr(depth int, hidden bool) string {
	if depth <= 0 {
		name := a.one(append([]string{"a", "b", "x", "y"}, a.loops...)...)
		if hidden && a.IntN(2) == 0 {
			name = a.one("g", "h")
		}
		return a.one(name, name, a.number())
	}
	part := func() string { return a.expr(depth-1-a.IntN(2), hidden) }
	open := func() string { return a.expr(depth-1-a.IntN(2), false) }
	switch a.IntN(11) {
	case 0, 1:
		word := "peek"
		if hidden {
			word = a.one("peek", "spy", "spy")
		}
		return word + "[" + open() + "," + open() + "]"
	case 2:
		return "sel(" + part() + "," + part() + "," + part() + ")"
	case 3:
		return a.one("min", "max") + "(" + part() + "," + part() + ")"
	case 4:
		return "-" + a.one("", "-", "- -") + "(" + part() + ")"
	case 5:
		return "(" + part() + a.one("=", "≠", "<", "≤") + part() + ")"
	case 6:
		return part() + a.one("×", "÷") + "(" + part() + ")"
	case 7:
		return part() + "×" + a.one("-", "") + a.number() + a.one("+", "-") + part()
	}
	return part() + a.one("+", "-", "×", "÷") + part()
}

func (a *author) block(depth int) string {
	var text string
	for range a.IntN(4) {
		text += a.statement(depth - 1)
	}
	return "{" + text + "}"
}

func (a *author) statement(depth int) string {
	switch kind := a.IntN(12); {
	case kind < 2 && depth > 0:
		return "if " + a.expr(a.IntN(3), false) + a.block(depth) + a.one("", "else"+a.block(depth))
	case kind < 4 && depth > 0:
		name := string('i' + rune(len(a.loops)))
		first := a.IntN(6)
		a.loops = append(a.loops, name)
		text := "for " + name + " " + strconv.Itoa(first) + "…" + strconv.Itoa(first+a.IntN(15)) + a.block(depth)
		a.loops = a.loops[:len(a.loops)-1]
		return text
	case kind < 5:
		return a.one("a", "b") + "←" + a.expr(a.IntN(4), false) + ";"
	case kind < 7:
		return a.one("g", "h") + "←" + a.expr(a.IntN(4), true) + ";"
	case kind < 9:
		return "out " + a.expr(a.IntN(4), false) + ";"
	}
	return "hide " + a.expr(a.IntN(4), true) + ";"
}

func paintableSource(r *rand.Rand) string {
	for {
		a := author{Rand: r}
		text := a.one("open a,b;hidden g,h;", "hidden h;open b;hidden g;open a;") + a.one("", "h←spy[x,y];")
		for range 1 + r.IntN(5) {
			text += a.statement(3)
		}
		text += a.one("", "hide g+h;")
		if len(text) <= api.MaxSource {
			return text
		}
	}
}

func randomTexels(r *rand.Rand, count int) []int {
	list := make([]int, count)
	for i := range list {
		list[i] = []int{r.IntN(256), r.IntN(256), r.IntN(6), 0, 255}[r.IntN(5)]
	}
	return list
}

func randomScene(r *rand.Rand, source string) api.Scene {
	w, h := 1+r.IntN(6), 1+r.IntN(6)
	return api.Scene{W: w, H: h, Open: randomTexels(r, w*h), Hidden: randomTexels(r, w*h), Source: source}
}

func TestPaintOfWrittenSources(t *testing.T) {
	r := rand.New(rand.NewPCG(5, 6))
	count := map[api.Errno]int{}
	long := 0
	for range 4000 {
		want, e := wantPaintAsOracle(t, randomScene(r, paintableSource(r)))
		count[e]++
		if want.Touched > 100 {
			long++
		}
	}
	if count[api.OK] < 3000 || count[api.ErrSteps] < 50 || len(count) != 2 || long < 500 {
		t.Errorf("too few of a kind: %v, %d with more than 100 touches", count, long)
	}
	// Most of these are wrong, in all ways.
	for range 1000 {
		wantPaintAsOracle(t, randomScene(r, writtenSource(r)))
	}
}

// wantUntold paints a scene with two lists of hidden texels, and tells whether it saw the hidden pictures differ.
func wantUntold(t *testing.T, s api.Scene, hidden []int) bool {
	t.Helper()
	other := s
	other.Hidden = hidden
	a, e, at := sable.Paint(s)
	b, e2, at2 := sable.Paint(other)
	if e != e2 || at != at2 {
		t.Errorf("P6: %+v: %d, %d; with %v hidden: %d, %d", s, e, at, hidden, e2, at2)
	}
	if !slices.Equal(a.Open, b.Open) || a.Steps != b.Steps || a.Touched != b.Touched || !slices.Equal(a.Trace, b.Trace) {
		t.Errorf("P6: %+v: %+v; with %v hidden: %+v", s, a, hidden, b)
	}
	return !slices.Equal(a.Hidden, b.Hidden)
}

func TestWhatIsHiddenIsNotTold(t *testing.T) {
	r := rand.New(rand.NewPCG(7, 8))
	differ := 0
	for range 3000 {
		s := randomScene(r, paintableSource(r))
		for _, hidden := range [][]int{randomTexels(r, s.W*s.H), make([]int, s.W*s.H), s.Open} {
			if wantUntold(t, s, hidden) {
				differ++
			}
		}
	}
	if differ < 1000 {
		t.Errorf("only %d hidden pictures differ", differ)
	}
	for range 3000 {
		s := randomScene(r, writtenSource(r))
		wantUntold(t, s, randomTexels(r, s.W*s.H))
	}
}

// A scene that was written and read is painted as before.
func TestPaintBehindEncodeAndDecode(t *testing.T) {
	r := rand.New(rand.NewPCG(9, 10))
	for range 500 {
		s := randomScene(r, paintableSource(r))
		b, e := sable.Encode(s)
		read, e2 := sable.Decode(b)
		if e != api.OK || e2 != api.OK || !sameScene(read, s) {
			t.Errorf("P6: Encode, then Decode of %+v = %+v, %d, %d", s, read, e, e2)
		}
		wantPaintAsOracle(t, read)
	}
}

func FuzzPaint(f *testing.F) {
	for _, source := range []string{"out peek[x, y]; hide spy[1 - x, y];", "for i 0…20{for j 0…20{out i;}}", "hidden h; h ← spy[x, y]; hide sel(h < 9, 1, h ÷ 0);", "open a; if x = y { a ← max(x, -1); } else { out (a ≠ 2) ≤ 3; }"} {
		b, _ := sable.Encode(flat(3, 2, 40, source))
		f.Add(b, "\x00\xff")
	}
	f.Fuzz(func(t *testing.T, b string, other string) {
		s, e := sable.Decode(b)
		if e != api.OK {
			return
		}
		wantPaintAsOracle(t, s)
		hidden := make([]int, s.W*s.H)
		for i := range min(len(hidden), len(other)) {
			hidden[i] = int(other[i])
		}
		wantUntold(t, s, hidden)
	})
}
