package paint

import "math"

const white = 255

// tone cuts the root behind a half more, and so gives the nearest whole number:
// the root of a whole number never lies halfway between two.
func tone(v int32) int {
	v = min(max(v, 0), white)
	return int(math.Sqrt(float64(white*v)) + 0.5)
}
