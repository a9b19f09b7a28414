package scene

import (
	"strings"

	"sable/api"
)

// Read gives the scene that has these bytes.
func Read(b string) (api.Scene, api.Errno) {
	r := reader{rest: b}
	r.readMark()
	var s api.Scene
	s.W = r.readSide()
	s.H = r.readSide()
	s.Open = r.readTexels(s.W * s.H)
	s.Hidden = r.readTexels(s.W * s.H)
	s.Source = r.readSource()
	r.readEnd()
	if r.fault != api.OK {
		return api.Scene{}, r.fault
	}
	return s, api.OK
}

// A reader keeps its first fault, and reads only noughts behind it: so the parts of a scene
// can be read one behind the other, and the leftmost fault is the one that is answered.
type reader struct {
	rest  string
	fault api.Errno
}

func (r *reader) fail(e api.Errno) {
	if r.fault == api.OK {
		r.fault = e
	}
}

func (r *reader) readByte() int {
	if r.fault != api.OK {
		return 0
	}
	if len(r.rest) == 0 {
		r.fail(api.ErrShort)
		return 0
	}
	n := int(r.rest[0])
	r.rest = r.rest[1:]
	return n
}

func (r *reader) readMark() {
	if r.readByte() != mark {
		r.fail(api.ErrMark)
	}
}

func (r *reader) readSide() int {
	n := r.readByte()
	if !isSide(n) {
		r.fail(api.ErrSide)
		return 0
	}
	return n
}

func (r *reader) readTexels(count int) []int {
	list := make([]int, count)
	for i := range list {
		list[i] = r.readByte()
	}
	return list
}

func (r *reader) readSource() string {
	high := r.readByte()
	count := high<<8 + r.readByte()
	if count > api.MaxSource {
		r.fail(api.ErrLong)
	}
	if count > len(r.rest) {
		r.fail(api.ErrShort)
	}
	if r.fault != api.OK {
		return ""
	}
	// A piece of the bytes would keep all of them alive as long as the scene is.
	source := strings.Clone(r.rest[:count])
	r.rest = r.rest[count:]
	return source
}

func (r *reader) readEnd() {
	if len(r.rest) > 0 {
		r.fail(api.ErrMore)
	}
}
