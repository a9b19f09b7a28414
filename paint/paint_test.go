package paint

import (
	"math"
	"math/big"
	"slices"
	"testing"

	"sable/api"
)

func TestPointsRowByRow(t *testing.T) {
	got := slices.Collect(points(3, 2))
	want := []point{{0, 0}, {1, 0}, {2, 0}, {0, 1}, {1, 1}, {2, 1}}
	if !slices.Equal(got, want) {
		t.Errorf("P5: the points of a picture 3 wide, 2 high: %v, want %v", got, want)
	}
	for w := 1; w <= api.MaxSide; w++ {
		for h := 1; h <= api.MaxSide; h++ {
			number := 0
			for at := range points(w, h) {
				if at.row*w+at.column != number || at.column >= w {
					t.Errorf("P5: %d by %d: point %d is %v", w, h, number, at)
				}
				number++
			}
			if number != w*h {
				t.Errorf("P5: %d by %d: %d points", w, h, number)
			}
		}
	}
}

func TestPointsEndWhereTheyAreLeft(t *testing.T) {
	for leave := 1; leave <= 6; leave++ {
		count := 0
		for range points(3, 2) {
			count++
			if count == leave {
				break
			}
		}
		if count != leave {
			t.Errorf("P5: %d points were told, want %d", count, leave)
		}
	}
}

// The nearest whole number n has (2n - 1)² below 4 · 255 · v, and (2n + 1)² above it.
func TestToneIsTheNearest(t *testing.T) {
	for v := range int32(256) {
		n := tone(v)
		four := 4 * 255 * int(v)
		if n < 0 || n > 0 && (2*n-1)*(2*n-1) >= four || (2*n+1)*(2*n+1) <= four {
			t.Errorf("P5: the tone of %d is %d", v, n)
		}
	}
	for _, v := range []int32{-1, -2, -255, -256, -65536, -8421505, math.MinInt32 + 1, math.MinInt32} {
		if n := tone(v); n != 0 {
			t.Errorf("P5: the tone of %d is %d, want 0", v, n)
		}
	}
	for _, v := range []int32{255, 256, 257, 511, 512, 65535, 65536, 8421504, 8421505, 16843009, math.MaxInt32 - 1, math.MaxInt32} {
		if n := tone(v); n != 255 {
			t.Errorf("P5: the tone of %d is %d, want 255", v, n)
		}
	}
}

// wrapped takes a number modulo 4294967296 into the values.
func wrapped(n *big.Int) int32 {
	half := big.NewInt(1 << 31)
	n = new(big.Int).Add(n, half)
	n.Mod(n, big.NewInt(1<<32))
	return int32(n.Sub(n, half).Int64())
}

func edges() []int32 {
	list := []int32{math.MinInt32, math.MinInt32 + 1, math.MinInt32 / 2, math.MaxInt32 - 1, math.MaxInt32, 1 << 30, 46340, 46341, -46341, 65535, 65536, -65536}
	for n := int32(-12); n <= 12; n++ {
		list = append(list, n)
	}
	return list
}

func TestValuesOfSigns(t *testing.T) {
	for _, a := range edges() {
		x := big.NewInt(int64(a))
		if got, want := ofSign('-', []int32{a}), wrapped(new(big.Int).Neg(x)); got != want {
			t.Errorf("P5: - %d = %d, want %d", a, got, want)
		}
		for _, b := range edges() {
			y := big.NewInt(int64(b))
			order := x.Cmp(y)
			quotient := new(big.Int)
			if b != 0 {
				quotient.Quo(x, y)
			}
			for sign, want := range map[rune]int32{
				'+': wrapped(new(big.Int).Add(x, y)),
				'-': wrapped(new(big.Int).Sub(x, y)),
				'×': wrapped(new(big.Int).Mul(x, y)),
				'÷': wrapped(quotient),
				'=': map[bool]int32{true: 1}[order == 0],
				'≠': map[bool]int32{true: 1}[order != 0],
				'<': map[bool]int32{true: 1}[order < 0],
				'≤': map[bool]int32{true: 1}[order <= 0],
			} {
				if got := ofSign(sign, []int32{a, b}); got != want {
					t.Errorf("P5: %d %c %d = %d, want %d", a, sign, b, got, want)
				}
			}
		}
	}
}

func TestWithin(t *testing.T) {
	for count := 1; count <= api.MaxSide; count++ {
		for _, n := range edges() {
			want := int(n)
			if n < 0 {
				want = 0
			} else if want >= count {
				want = count - 1
			}
			if got := within(n, count); got != want {
				t.Errorf("P5: of %d columns that of %d is %d, want %d", count, n, got, want)
			}
		}
	}
}
