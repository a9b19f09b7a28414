// Package scene tells whether a scene may be, and writes and reads its bytes.
package scene

import "sable/api"

const (
	mark     = 85
	maxTexel = 255
)

// Shape answers ErrSide or ErrTexel where the sides or the texels of a scene may not be, else OK.
// It leaves the source alone: not every call asks the same of it.
func Shape(s api.Scene) api.Errno {
	// The sides come first: only of sides that may be is the product sure not to overflow.
	if !isSide(s.W) || !isSide(s.H) {
		return api.ErrSide
	}
	if !areTexels(s.Open, s.W*s.H) || !areTexels(s.Hidden, s.W*s.H) {
		return api.ErrTexel
	}
	return api.OK
}

func isSide(n int) bool { return 1 <= n && n <= api.MaxSide }

func areTexels(list []int, count int) bool {
	if len(list) != count {
		return false
	}
	for _, n := range list {
		if n < 0 || n > maxTexel {
			return false
		}
	}
	return true
}
