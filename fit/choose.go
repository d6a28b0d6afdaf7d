package fit

import (
	"strings"

	"metrolab/api"
	"metrolab/grades"
)

// pair has the classes of a fit.
type pair struct{ hole, shaft grades.Class }

// candidate is a pair of classes with its clearance for a size.
type candidate struct {
	pair
	clearance api.Limits
}

// Choose returns the fit of the basic hole with the widest clearance within some limits.
func Choose(size int, want api.Limits) (Fit, api.Errno) {
	switch {
	case size < 1 || size > api.MaxCoord:
		return Fit{}, api.ErrRange
	case !within(api.Limits{Low: -api.MaxCoord, High: api.MaxCoord}, want.Low, want.High):
		return Fit{}, api.ErrRange
	case want.Low > want.High:
		return Fit{}, api.ErrOrder
	}
	widest := -1
	var chosen Fit
	for c := range candidates(size) {
		// Of equally wide ones, the first one remains.
		if within(want, c.clearance.Low, c.clearance.High) && c.width() > widest {
			widest = c.width()
			chosen = Fit{Size: size, Hole: c.hole, Shaft: c.shaft}
		}
	}
	if widest < 0 {
		return Fit{}, api.ErrNone
	}
	return chosen, api.OK
}

func (c candidate) width() int { return c.clearance.High - c.clearance.Low }

// candidates returns an iterator over the right fits of the basic hole.
func candidates(size int) func(yield func(candidate) bool) {
	return func(yield func(candidate) bool) {
		for p := range basic {
			clearance, e := Clearance(Fit{Size: size, Hole: p.hole, Shaft: p.shaft})
			if e == api.OK && !yield(candidate{p, clearance}) {
				return
			}
		}
	}
}

// basic yields the classes of the basic hole with those of shafts: by the grade of the hole, then by the letter, then by the grade of the shaft.
func basic(yield func(pair) bool) {
	letter := strings.Index(grades.Letters, "h")
	for hole := grades.MinGrade; hole <= grades.MaxGrade; hole++ {
		for shaft := range shafts {
			if !yield(pair{grades.Class{Hole: true, Letter: letter, Grade: hole}, shaft}) {
				return
			}
		}
	}
}

// shafts yields the classes of shafts, by letters and by grades.
func shafts(yield func(grades.Class) bool) {
	for letter := range grades.Letters {
		for grade := grades.MinGrade; grade <= grades.MaxGrade; grade++ {
			if !yield(grades.Class{Letter: letter, Grade: grade}) {
				return
			}
		}
	}
}
