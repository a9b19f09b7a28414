package paint

import "iter"

type point struct{ column, row int }

// points tells the points of a picture row by row from above, each row from the left.
func points(w, h int) iter.Seq[point] {
	return func(yield func(point) bool) {
		for row := range h {
			for column := range w {
				if !yield(point{column, row}) {
					return
				}
			}
		}
	}
}
