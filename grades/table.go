package grades

import "metrolab/api"

// steps is how many size steps there are.
const steps = 8

// The greatest size of each step, and its base; and the factor of each grade.
var (
	ends    = [steps]int{3000, 6000, 10000, 18000, 30000, 50000, 80000, api.MaxCoord}
	bases   = [steps]int{6, 8, 9, 11, 13, 16, 19, 22}
	factors = [MaxGrade - MinGrade + 1]int{7, 10, 16, 25, 40, 64, 100, 160}
)

func checkSize(size int) api.Errno {
	if size < 1 || size > api.MaxCoord {
		return api.ErrRange
	}
	return api.OK
}

// Step returns the index of the size step of a size.
func Step(size int) (int, api.Errno) {
	if e := checkSize(size); e != api.OK {
		return 0, e
	}
	return step(size), api.OK
}

func step(size int) int {
	i := 0
	for size > ends[i] {
		i++
	}
	return i
}

// Tolerance returns the tolerance of a grade.
func Tolerance(size, grade int) (int, api.Errno) {
	if e := checkSize(size); e != api.OK {
		return 0, e
	}
	if e := checkGrade(grade); e != api.OK {
		return 0, e
	}
	return tolerance(size, grade), api.OK
}

func tolerance(size, grade int) int {
	return (bases[step(size)]*factors[grade-MinGrade] + 5) / 10
}

// Coarsest returns the greatest grade whose tolerance is at most a width.
func Coarsest(size, width int) (int, api.Errno) {
	if e := checkSize(size); e != api.OK {
		return 0, e
	}
	for grade := MaxGrade; grade >= MinGrade; grade-- {
		if tolerance(size, grade) <= width {
			return grade, api.OK
		}
	}
	return 0, api.ErrNone
}

// Deviations returns the least and the greatest deviation from a size.
func Deviations(size int, c Class) (api.Limits, api.Errno) {
	if e := checkSize(size); e != api.OK {
		return api.Limits{}, e
	}
	if e := Check(c); e != api.OK {
		return api.Limits{}, e
	}
	return deviations(size, c), api.OK
}

func deviations(size int, c Class) api.Limits {
	row := letters(tolerance(size, c.Grade))[c.Letter]
	l := row.deviations(bases[step(size)] * row.shift / 10)
	if c.Hole {
		return api.Limits{Low: -l.High, High: -l.Low}
	}
	return l
}

// letter has the shift of a letter, and the deviations of its shafts, given how far the nearer one is from the size.
type letter struct {
	shift      int
	deviations func(shifted int) api.Limits
}

// letters returns the rows of all letters, for shafts with a tolerance.
func letters(tolerance int) [len(Letters)]letter {
	below := func(s int) api.Limits { return api.Limits{Low: -s - tolerance, High: -s} }
	around := func(int) api.Limits { return api.Limits{Low: -(tolerance / 2), High: tolerance / 2} }
	above := func(s int) api.Limits { return api.Limits{Low: s, High: s + tolerance} }
	return [...]letter{
		{50, below}, {31, below}, {16, below}, {6, below}, {0, below},
		{0, around},
		{2, above}, {9, above}, {15, above}, {22, above},
	}
}

// Limits returns the limits of a size.
func Limits(size int, c Class) (api.Limits, api.Errno) {
	l, e := Deviations(size, c)
	if e != api.OK {
		return api.Limits{}, e
	}
	l = api.Limits{Low: size + l.Low, High: size + l.High}
	if l.Low < 1 || l.High > api.MaxCoord {
		return api.Limits{}, api.ErrRange
	}
	return l, api.OK
}
