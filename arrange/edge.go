package arrange

import (
	"cmp"
	"iter"
	"slices"

	"metrolab/api"
	"metrolab/ratio"
)

// crossing is a place where another line, with some index, crosses a line.
type crossing struct {
	api.Place
	other int
}

// compare orders crossings by their places.
func (c crossing) compare(d crossing) int { return cmp.Or(order(c.X, d.X), order(c.Y, d.Y)) }

// order is ratio.Compare for coordinates of vertices, whose numbers are short.
func order(a, b api.Rat) int {
	sign, _ := ratio.Compare(a, b)
	return sign
}

// crossed returns where some lines cross a line.
func crossed(line Line, l []Line) []crossing {
	var found []crossing
	for i, other := range l {
		if kind, place, _ := Meet(line, other); kind == 1 {
			found = append(found, crossing{place, i})
		}
	}
	return found
}

// different returns the normal forms of lines, each once.
func different(l []Line) []Line {
	var found []Line
	for _, line := range l {
		if form := normal(line); !slices.Contains(found, form) {
			found = append(found, form)
		}
	}
	return found
}

// edges yields the sides of each edge for different lines in normal form, line by line, in the order of the places on it.
// They are changed when the next edge is asked for.
func edges(l []Line) iter.Seq[[]int] {
	return func(yield func([]int) bool) {
		for _, line := range l {
			var sides []int
			for _, other := range l {
				sides = append(sides, first(line, other))
			}
			crossings := crossed(line, l)
			slices.SortFunc(crossings, crossing.compare)
			for i, c := range crossings {
				if (i == 0 || c.Place != crossings[i-1].Place) && !yield(sides) {
					return
				}
				sides[c.other] = -sides[c.other]
			}
			if !yield(sides) {
				return
			}
		}
	}
}

// first returns the side that the places on a line have for another line before both cross, or all of them if they do not.
// Both are in normal form.
func first(line, other Line) int {
	x, y := line.B, -line.A // the direction in which the places on the line are greater
	if line.B <= 0 {
		x, y = -x, -y
	}
	ahead := other.A*x + other.B*y
	return cmp.Or(cmp.Compare(0, ahead), cmp.Compare(line.C*leading(other), other.C*leading(line)))
}

// face returns the sides for lines of the face on one side of an edge, which has its sides for the normal forms of these.
func face(l, forms []Line, sides []int, side int) []int {
	var found []int
	for _, line := range l {
		i := slices.Index(forms, normal(line))
		found = append(found, direction(line)*cmp.Or(sides[i], side))
	}
	return found
}
