package sable_test

import (
	"math"
	"slices"
	"strings"
	"testing"
	"unsafe"

	"sable/api"
	"sable/sable"
)

func sameScene(a, b api.Scene) bool {
	return a.W == b.W && a.H == b.H && slices.Equal(a.Open, b.Open) && slices.Equal(a.Hidden, b.Hidden) && a.Source == b.Source
}

func flat(w, h, texel int, source string) api.Scene {
	return api.Scene{W: w, H: h, Open: slices.Repeat([]int{texel}, w*h), Hidden: slices.Repeat([]int{texel}, w*h), Source: source}
}

func wantBoth(t *testing.T, s api.Scene, b string) {
	t.Helper()
	if got, e := sable.Encode(s); got != b || e != api.OK {
		t.Errorf("P3: Encode(%+v) = %q, %d, want %q, 0", s, got, e, b)
	}
	if got, e := sable.Decode(b); !sameScene(got, s) || e != api.OK {
		t.Errorf("P3: Decode(%q) = %+v, %d, want %+v, 0", b, got, e, s)
	}
}

func wantEncodeError(t *testing.T, what string, s api.Scene, want api.Errno) {
	t.Helper()
	if b, e := sable.Encode(s); b != "" || e != want {
		t.Errorf("P3, P1: Encode of %s = %q, %d, want \"\", %d", what, b, e, want)
	}
}

func wantDecodeError(t *testing.T, b string, want api.Errno) {
	t.Helper()
	s, e := sable.Decode(b)
	if e != want {
		t.Errorf("P3: Decode(%.60q) (%d bytes) = error %d, want %d", b, len(b), e, want)
	}
	if s.W != 0 || s.H != 0 || len(s.Open) != 0 || len(s.Hidden) != 0 || s.Source != "" {
		t.Errorf("P1: Decode(%.60q) = %+v beside error %d", b, s, e)
	}
}

func TestBytesOfScenes(t *testing.T) {
	for _, c := range []struct {
		s api.Scene
		b string
	}{
		{api.Scene{W: 2, H: 1, Open: []int{10, 20}, Hidden: []int{30, 40}, Source: "hide 1;"}, "U\x02\x01\x0a\x14\x1e\x28\x00\x07hide 1;"},
		{api.Scene{W: 1, H: 2, Open: []int{10, 20}, Hidden: []int{30, 40}, Source: "hide 1;"}, "U\x01\x02\x0a\x14\x1e\x28\x00\x07hide 1;"},
		{api.Scene{W: 3, H: 2, Open: []int{1, 2, 3, 4, 5, 6}, Hidden: []int{7, 8, 9, 10, 11, 12}, Source: "a ← 1;"}, "U\x03\x02\x01\x02\x03\x04\x05\x06\x07\x08\x09\x0a\x0b\x0c\x00\x08a \xe2\x86\x90 1;"},
		{api.Scene{W: 1, H: 1, Open: []int{0}, Hidden: []int{255}}, "U\x01\x01\x00\xff\x00\x00"},
		{api.Scene{W: 1, H: 1, Open: []int{255}, Hidden: []int{0}, Source: "\x00\xff\xfe"}, "U\x01\x01\xff\x00\x00\x03\x00\xff\xfe"},
		{api.Scene{W: 1, H: 1, Open: []int{127}, Hidden: []int{128}, Source: "U"}, "U\x01\x01\x7f\x80\x00\x01U"},
	} {
		wantBoth(t, c.s, c.b)
	}
}

func TestEverySide(t *testing.T) {
	for w := 1; w <= api.MaxSide; w++ {
		for h := 1; h <= api.MaxSide; h++ {
			for _, texel := range []int{0, 1, 127, 128, 254, 255} {
				texels := strings.Repeat(string([]byte{byte(texel)}), 2*w*h)
				wantBoth(t, flat(w, h, texel, "out 1;"), string([]byte{85, byte(w), byte(h)})+texels+"\x00\x06out 1;")
			}
		}
	}
}

func TestEveryTexel(t *testing.T) {
	for n := range 256 {
		s := api.Scene{W: 1, H: 1, Open: []int{n}, Hidden: []int{255 - n}}
		wantBoth(t, s, string([]byte{85, 1, 1, byte(n), byte(255 - n), 0, 0}))
	}
}

func TestEverySourceLength(t *testing.T) {
	for n := range api.MaxSource + 1 {
		source := strings.Repeat(";", n)
		wantBoth(t, flat(1, 1, 9, source), "U\x01\x01\x09\x09"+string([]byte{byte(n / 256), byte(n % 256)})+source)
	}
	wantBoth(t, flat(1, 1, 9, strings.Repeat("x", 255)), "U\x01\x01\x09\x09\x00\xff"+strings.Repeat("x", 255))
	wantBoth(t, flat(1, 1, 9, strings.Repeat("x", 256)), "U\x01\x01\x09\x09\x01\x00"+strings.Repeat("x", 256))
	wantBoth(t, flat(1, 1, 9, strings.Repeat("x", 300)), "U\x01\x01\x09\x09\x01\x2c"+strings.Repeat("x", 300))
}

// Greater sides with products that wrap round to a length that would fit are among them.
func TestEncodeSides(t *testing.T) {
	wrong := []int{0, -1, -6, api.MaxSide + 1, 255, 256, 257, 1 << 31, 1 << 32, 1<<32 + 1, 1 << 62, 1<<62 + 1, math.MaxInt, math.MinInt, math.MinInt + 1}
	other := []int{1, 4, api.MaxSide, 0, -1, 1 << 32, 1 << 62, math.MinInt}
	for _, n := range wrong {
		for _, m := range other {
			for _, list := range [][]int{nil, {}, {1}, {1, 2, 3, 4}} {
				wantEncodeError(t, "a wrong width", api.Scene{W: n, H: m, Open: list, Hidden: list}, api.ErrSide)
				wantEncodeError(t, "a wrong height", api.Scene{W: m, H: n, Open: list, Hidden: list}, api.ErrSide)
			}
		}
	}
	wantEncodeError(t, "a scene of noughts", api.Scene{}, api.ErrSide)
	wantEncodeError(t, "a scene 7 wide with its texels", flat(7, 1, 1, ""), api.ErrSide)
	wantEncodeError(t, "a scene 7 high with its texels", flat(1, 7, 1, ""), api.ErrSide)
	wantEncodeError(t, "sides below 0 with a product of 4", api.Scene{W: -2, H: -2, Open: []int{1, 2, 3, 4}, Hidden: []int{1, 2, 3, 4}}, api.ErrSide)
}

func TestEncodeCountsTexels(t *testing.T) {
	for w := 1; w <= api.MaxSide; w++ {
		for h := 1; h <= api.MaxSide; h++ {
			right := make([]int, w*h)
			for _, wrong := range [][]int{nil, {}, make([]int, w*h-1), make([]int, w*h+1), make([]int, 2*w*h), make([]int, 300)} {
				wantEncodeError(t, "a wrong count in Open", api.Scene{W: w, H: h, Open: wrong, Hidden: right}, api.ErrTexel)
				wantEncodeError(t, "a wrong count in Hidden", api.Scene{W: w, H: h, Open: right, Hidden: wrong}, api.ErrTexel)
				wantEncodeError(t, "a wrong count in both", api.Scene{W: w, H: h, Open: wrong, Hidden: wrong}, api.ErrTexel)
			}
		}
	}
	wantEncodeError(t, "counts that are right only in sum", api.Scene{W: 2, H: 1, Open: make([]int, 1), Hidden: make([]int, 3)}, api.ErrTexel)
	// A list that is cut short is as long as it is, whatever lies behind its end.
	wantEncodeError(t, "a list with room behind it", api.Scene{W: 2, H: 1, Open: make([]int, 1, 2), Hidden: make([]int, 2)}, api.ErrTexel)
}

func TestEncodeTexelRange(t *testing.T) {
	for _, n := range []int{-1, -255, -256, 256, 257, 511, 512, 1 << 32, 1 << 62, math.MaxInt, math.MinInt} {
		for at := range 6 {
			s := flat(3, 2, 5, "")
			s.Open[at] = n
			wantEncodeError(t, "a wrong texel in Open", s, api.ErrTexel)
			s = flat(3, 2, 5, "")
			s.Hidden[at] = n
			wantEncodeError(t, "a wrong texel in Hidden", s, api.ErrTexel)
		}
	}
}

func TestEncodeSourceLength(t *testing.T) {
	for _, n := range []int{301, 302, 511, 512, 65535, 65536, 65537, 65836, 1 << 20} {
		wantEncodeError(t, "a source that is too long", flat(1, 1, 0, strings.Repeat("x", n)), api.ErrLong)
	}
	// Bytes are counted, not runes: 100 of these signs are 300 bytes, 101 are too many.
	if _, e := sable.Encode(flat(1, 1, 0, strings.Repeat("…", 100))); e != api.OK {
		t.Errorf("P3: Encode of a source of 100 signs and 300 bytes = error %d", e)
	}
	wantEncodeError(t, "a source of 101 signs and 303 bytes", flat(1, 1, 0, strings.Repeat("…", 101)), api.ErrLong)
}

func TestEncodeTellsTheFirstError(t *testing.T) {
	long := strings.Repeat("x", api.MaxSource+1)
	wantEncodeError(t, "a wrong side, wrong texels, a long source", api.Scene{W: 0, H: 1, Open: []int{-1}, Hidden: []int{256, 1}, Source: long}, api.ErrSide)
	wantEncodeError(t, "a wrong height, wrong texels", api.Scene{W: 1, H: 7, Open: []int{-1}, Hidden: []int{256}}, api.ErrSide)
	wantEncodeError(t, "a wrong side, a long source", flat(7, 1, 0, long), api.ErrSide)
	wantEncodeError(t, "a wrong texel in Open, a long source", api.Scene{W: 1, H: 1, Open: []int{256}, Hidden: []int{1}, Source: long}, api.ErrTexel)
	wantEncodeError(t, "a wrong texel in Hidden, a long source", api.Scene{W: 1, H: 1, Open: []int{1}, Hidden: []int{-1}, Source: long}, api.ErrTexel)
	wantEncodeError(t, "no Hidden, a long source", api.Scene{W: 1, H: 1, Open: []int{1}, Source: long}, api.ErrTexel)
}

func TestDecodeOfEveryBeginning(t *testing.T) {
	for _, s := range []api.Scene{flat(1, 1, 0, ""), flat(1, 1, 255, "x"), flat(2, 3, 85, "out 1;"), flat(6, 6, 7, strings.Repeat("…", 100)), flat(6, 1, 1, strings.Repeat("x", 256))} {
		b, e := sable.Encode(s)
		if e != api.OK {
			t.Fatalf("P3: Encode(%+v) = error %d", s, e)
		}
		for n := range len(b) {
			wantDecodeError(t, b[:n], api.ErrShort)
		}
		for _, more := range []string{"\x00", "x", "\xff", b, strings.Repeat("\x00", 70000)} {
			wantDecodeError(t, b+more, api.ErrMore)
		}
	}
}

func TestDecodeMark(t *testing.T) {
	for n := range 256 {
		if n == 85 {
			continue
		}
		first := string([]byte{byte(n)})
		for _, rest := range []string{"", "\x00", "\x01", "\x01\x01\x00\x00\x00\x00", "\x07\x07", "U\x01\x01\x00\x00\x00\x00", "\x01\x01\x00\x00\xff\xff", "\x01\x01\x00\x00\x00\x00x"} {
			wantDecodeError(t, first+rest, api.ErrMark)
		}
	}
}

func TestDecodeSides(t *testing.T) {
	for n := range 256 {
		if 1 <= n && n <= api.MaxSide {
			continue
		}
		side := string([]byte{byte(n)})
		for _, rest := range []string{"", "\x00", "\x01", "\x01\x00\x00\x00\x00", strings.Repeat("\x01", 1000)} {
			wantDecodeError(t, "U"+side+rest, api.ErrSide)
			for _, w := range []string{"\x01", "\x06"} {
				wantDecodeError(t, "U"+w+side+rest, api.ErrSide)
			}
		}
	}
}

func TestDecodeLength(t *testing.T) {
	const head = "U\x01\x01\x00\x00"
	for n := api.MaxSource + 1; n <= 65535; n++ {
		wantDecodeError(t, head+string([]byte{byte(n >> 8), byte(n)}), api.ErrLong)
	}
	// The length is at fault ahead of what is, or is not, behind it.
	for _, n := range []int{1, 300, 301, 302, 70000} {
		wantDecodeError(t, head+"\x01\x2d"+strings.Repeat("x", n), api.ErrLong)
	}
	for _, high := range []string{"\x00", "\x01", "\x02", "\xff"} {
		wantDecodeError(t, head+high, api.ErrShort)
	}
	// With the low byte first this would be a length of 1 and a byte.
	wantDecodeError(t, head+"\x01\x00x", api.ErrShort)
	for n := 1; n <= api.MaxSource; n++ {
		wantDecodeError(t, head+string([]byte{byte(n >> 8), byte(n)})+strings.Repeat("x", n-1), api.ErrShort)
		wantDecodeError(t, head+string([]byte{byte(n >> 8), byte(n)})+strings.Repeat("x", n+1), api.ErrMore)
	}
}

// All short texts of a few bytes: what Decode takes, Encode gives back.
func TestDecodeThenEncode(t *testing.T) {
	letters := []byte{0, 1, 2, 85}
	taken := 0
	var walk func(b []byte)
	walk = func(b []byte) {
		s, e := sable.Decode(string(b))
		if e == api.OK {
			taken++
			if back, e := sable.Encode(s); back != string(b) || e != api.OK {
				t.Errorf("P3, P6: Decode(%q), then Encode = %q, %d", b, back, e)
			}
		}
		if len(b) == 9 {
			return
		}
		for _, c := range letters {
			walk(append(b, c))
		}
	}
	walk(make([]byte, 0, 9))
	// 7 bytes: 1 by 1, no source (4 · 4); 8: one byte of source (64); 9: two bytes of it (256), or 1 by 2, 2 by 1 with none (256 each).
	if want := 16 + 64 + 256 + 2*256; taken != want {
		t.Errorf("P3: Decode takes %d of the texts, want %d", taken, want)
	}
}

func TestEncodeWritesIntoNothing(t *testing.T) {
	for _, source := range []string{"out 1;", strings.Repeat("x", 301)} {
		open := []int{1, 2, 3, 4, 77, 78}
		hidden := []int{5, 6, 7, 8, 79, 80}
		s := api.Scene{W: 2, H: 2, Open: open[:4], Hidden: hidden[:4], Source: source}
		first, _ := sable.Encode(s)
		if !slices.Equal(open, []int{1, 2, 3, 4, 77, 78}) || !slices.Equal(hidden, []int{5, 6, 7, 8, 79, 80}) {
			t.Errorf("P2: Encode wrote into its lists: %v, %v", open, hidden)
		}
		if again, _ := sable.Encode(s); again != first {
			t.Errorf("P2: Encode = %q, then %q", first, again)
		}
	}
}

// One list for both OPEN and HIDDEN is as good as two.
func TestEncodeOfOneListTwice(t *testing.T) {
	list := []int{3, 4}
	wantBoth(t, api.Scene{W: 2, H: 1, Open: list, Hidden: list}, "U\x02\x01\x03\x04\x03\x04\x00\x00")
}

func TestEncodeKeepsNothing(t *testing.T) {
	s := flat(2, 1, 3, "out 1;")
	b, _ := sable.Encode(s)
	s.Open[0], s.Hidden[1] = 9, 9
	if b != "U\x02\x01\x03\x03\x03\x03\x00\x06out 1;" {
		t.Errorf("P2: the bytes changed with the scene: %q", b)
	}
	if b, _ := sable.Encode(s); b != "U\x02\x01\x09\x03\x03\x09\x00\x06out 1;" {
		t.Errorf("P2: Encode of the changed scene = %q", b)
	}
}

func TestDecodeGivesNewMemory(t *testing.T) {
	const b = "U\x02\x01\x01\x02\x03\x04\x00\x01x"
	one, _ := sable.Decode(b)
	two, _ := sable.Decode(b)
	// Appending would write into the other list, if both were pieces of one.
	_ = append(append(one.Open, 99), 99)
	_ = append(append(one.Hidden, 98), 98)
	one.Open[0], one.Open[1] = 50, 51
	if !slices.Equal(one.Hidden, []int{3, 4}) {
		t.Errorf("P2: Hidden changed with Open: %v", one.Hidden)
	}
	one.Hidden[0], one.Hidden[1] = 52, 53
	if !slices.Equal(one.Open, []int{50, 51}) {
		t.Errorf("P2: Open changed with Hidden: %v", one.Open)
	}
	want := api.Scene{W: 2, H: 1, Open: []int{1, 2}, Hidden: []int{3, 4}, Source: "x"}
	if !sameScene(two, want) {
		t.Errorf("P2: a scene changed with another one: %+v", two)
	}
	if three, _ := sable.Decode(b); !sameScene(three, want) {
		t.Errorf("P2: Decode changed with an earlier answer: %+v", three)
	}
}

func TestDecodeKeepsNothing(t *testing.T) {
	b := "U\x01\x01\x00\x00\x00\x06out 1;"
	s, _ := sable.Decode(b)
	start := uintptr(unsafe.Pointer(unsafe.StringData(b)))
	at := uintptr(unsafe.Pointer(unsafe.StringData(s.Source)))
	if start <= at && at < start+uintptr(len(b)) {
		t.Error("P2: the source is a piece of the bytes that were handed in")
	}
}

func FuzzDecode(f *testing.F) {
	f.Add("U\x01\x02\x03\x04\x05\xff\x00\x06out 1;")
	f.Add("U\x01\x01\x00\x00\x01\x2c")
	f.Fuzz(func(t *testing.T, b string) {
		s, e := sable.Decode(b)
		if e != api.OK {
			wantDecodeError(t, b, e)
			return
		}
		if back, e := sable.Encode(s); back != b || e != api.OK {
			t.Errorf("P3, P6: Decode(%q), then Encode = %q, %d", b, back, e)
		}
	})
}
