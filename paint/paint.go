// Package paint does the program of a scene at each of its points.
package paint

import (
	"sable/api"
	"sable/program"
	"sable/scene"
)

// Scene gives the pictures of a scene, and what is to be seen of the work from without;
// or, of a scene that cannot be painted, the error and its place.
func Scene(s api.Scene) (api.Result, api.Errno, int) {
	if e := scene.Shape(s); e != api.OK {
		return api.Result{}, e, 0
	}
	t, e, place := program.Read(s.Source)
	if e != api.OK {
		return api.Result{}, e, place
	}
	p := newPainter(s)
	for at := range points(s.W, s.H) {
		p.begin(at)
		p.statements(t.Body)
		if p.isOver() {
			return api.Result{}, api.ErrSteps, 0
		}
	}
	return p.result, api.OK, 0
}

// Where a touch is made, by the numbers that api.Touch has for it.
const (
	openTexels = iota
	hiddenTexels
	openPicture
	hiddenPicture
)

// A painter is at work at one point of a scene, and keeps what has been done so far at all of them.
type painter struct {
	scene  api.Scene
	at     point
	values map[string]int32
	result api.Result
}

func newPainter(s api.Scene) *painter {
	return &painter{
		scene:  s,
		values: map[string]int32{},
		result: api.Result{Open: make([]int, s.W*s.H), Hidden: make([]int, s.W*s.H)},
	}
}

// begin leaves out the names that are declared: what is not in the map is 0, and so are they.
func (p *painter) begin(at point) {
	p.at = at
	clear(p.values)
	p.values["x"] = int32(at.column)
	p.values["y"] = int32(at.row)
}

func (p *painter) step() { p.result.Steps++ }

// isOver is asked ahead of each statement alone: an expression is no longer than the source,
// and rounds in which no statement is begun are soon gone through.
func (p *painter) isOver() bool { return p.result.Steps > api.MaxSteps }

// touch gives the place that is touched.
func (p *painter) touch(where int, at point) int {
	place := at.row*p.scene.W + at.column
	p.result.Touched++
	if len(p.result.Trace) < api.MaxTrace {
		p.result.Trace = append(p.result.Trace, api.Touch{Where: where, Place: place})
	}
	return place
}

func (p *painter) statements(list []program.Statement) {
	for _, s := range list {
		if p.isOver() {
			return
		}
		p.step()
		switch s := s.(type) {
		case program.Assign:
			p.values[s.Name.Word] = p.value(s.Value)
		case program.If:
			p.choose(s)
		case program.For:
			p.rounds(s)
		case program.Put:
			p.put(s)
		}
	}
}

func (p *painter) choose(s program.If) {
	if p.value(s.Condition) != 0 {
		p.statements(s.Then)
	} else {
		p.statements(s.Else)
	}
}

func (p *painter) rounds(s program.For) {
	for n := s.First.Number; n <= s.Last.Number; n++ {
		p.step()
		p.values[s.Name.Word] = n
		p.statements(s.Body)
	}
}

func (p *painter) put(s program.Put) {
	v := tone(p.value(s.Value))
	if s.Word.Word == "out" {
		p.result.Open[p.touch(openPicture, p.at)] = v
	} else {
		p.result.Hidden[p.touch(hiddenPicture, p.at)] = v
	}
}
