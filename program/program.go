// Package program reads the source of a scene into a tree, and tells what is wrong with one that may not be.
package program

import "sable/api"

// Read gives the tree of a source; or, of one that may not be, the error and its place.
// Each look at the source goes through all of it: an error of an earlier one is told
// ahead of those of later ones, even if it stands behind them.
func Read(source string) (Tree, api.Errno, int) {
	if len(source) > api.MaxSource {
		return Tree{}, api.ErrLong, 0
	}
	tokens, f := scan(source)
	if f.errno != api.OK {
		return Tree{}, f.errno, f.place
	}
	t, f := parse(tokens)
	if f.errno != api.OK {
		return Tree{}, f.errno, f.place
	}
	if f := checkNames(t); f.errno != api.OK {
		return Tree{}, f.errno, f.place
	}
	if f := checkFlow(t); f.errno != api.OK {
		return Tree{}, f.errno, f.place
	}
	return t, api.OK, 0
}

// A fault is an error and its place.
type fault struct {
	errno api.Errno
	place int
}

// note keeps the first fault alone: so a walk from the left need not stop at it.
func (f *fault) note(errno api.Errno, place int) {
	if f.errno == api.OK {
		*f = fault{errno, place}
	}
}
