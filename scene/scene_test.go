package scene_test

import (
	"strings"
	"testing"

	"sable/api"
	"sable/scene"
)

func TestShape(t *testing.T) {
	one := []int{1}
	for _, c := range []struct {
		s    api.Scene
		want api.Errno
	}{
		{api.Scene{W: 1, H: 1, Open: one, Hidden: one}, api.OK},
		{api.Scene{W: 1, H: 1, Open: []int{0}, Hidden: []int{255}}, api.OK},
		{api.Scene{W: 6, H: 6, Open: make([]int, 36), Hidden: make([]int, 36)}, api.OK},
		{api.Scene{}, api.ErrSide},
		{api.Scene{W: 1, H: 0, Open: one, Hidden: one}, api.ErrSide},
		{api.Scene{W: 7, H: 1, Open: make([]int, 7), Hidden: make([]int, 7)}, api.ErrSide},
		{api.Scene{W: 1, H: 1, Hidden: one}, api.ErrTexel},
		{api.Scene{W: 1, H: 1, Open: one}, api.ErrTexel},
		{api.Scene{W: 1, H: 1, Open: one, Hidden: []int{-1}}, api.ErrTexel},
		{api.Scene{W: 1, H: 1, Open: []int{256}, Hidden: one}, api.ErrTexel},
	} {
		if e := scene.Shape(c.s); e != c.want {
			t.Errorf("P3: Shape(%+v) = %d, want %d", c.s, e, c.want)
		}
	}
}

func TestShapeLeavesTheSourceAlone(t *testing.T) {
	s := api.Scene{W: 1, H: 1, Open: []int{1}, Hidden: []int{1}, Source: strings.Repeat("x", api.MaxSource+1)}
	if e := scene.Shape(s); e != api.OK {
		t.Errorf("P3: Shape of a scene with a long source = %d", e)
	}
}
