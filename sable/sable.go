// Package sable paints pictures that do not tell what is hidden in them: see DOC.md.
package sable

import (
	"sable/api"
	"sable/paint"
	"sable/program"
	"sable/scene"
)

// Encode writes a scene as bytes (P3).
func Encode(s api.Scene) (string, api.Errno) { return scene.Write(s) }

// Decode reads it (P3).
func Decode(b string) (api.Scene, api.Errno) { return scene.Read(b) }

// Check tells what is wrong first with a source, and where (P4).
func Check(source string) (api.Errno, int) {
	_, e, place := program.Read(source)
	return e, place
}

// Paint paints a scene (P5).
func Paint(s api.Scene) (api.Result, api.Errno, int) { return paint.Scene(s) }
