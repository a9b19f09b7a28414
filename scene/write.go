package scene

import "sable/api"

// Write gives the bytes of a scene.
func Write(s api.Scene) (string, api.Errno) {
	if e := Shape(s); e != api.OK {
		return "", e
	}
	if len(s.Source) > api.MaxSource {
		return "", api.ErrLong
	}
	b := []byte{mark, byte(s.W), byte(s.H)}
	b = appendTexels(b, s.Open)
	b = appendTexels(b, s.Hidden)
	b = append(b, byte(len(s.Source)>>8), byte(len(s.Source)))
	b = append(b, s.Source...)
	return string(b), api.OK
}

func appendTexels(b []byte, list []int) []byte {
	for _, n := range list {
		b = append(b, byte(n))
	}
	return b
}
