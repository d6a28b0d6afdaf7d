package drawing

import (
	"slices"
	"strings"

	"metrolab/api"
	"metrolab/checks"
	"metrolab/dimension"
	"metrolab/feature"
	"metrolab/frame"
	"metrolab/words"
)

// Parse returns the drawing with a text, or the index of the first line with an error.
func Parse(text string) (api.Drawing, int, api.Errno) {
	if len(text) > MaxDrawing {
		return api.Drawing{}, 0, api.ErrLong
	}
	lines := strings.Split(text, "\n")
	var r reader
	for i, line := range lines {
		if e := r.take(split(line)); e != api.OK {
			return api.Drawing{}, i, e
		}
	}
	if e := r.finish(); e != api.OK {
		return api.Drawing{}, count(lines), e
	}
	return r.drawing, 0, api.OK
}

// split returns the words of a line.
func split(line string) []string {
	return strings.FieldsFunc(line, func(c rune) bool { return c == ' ' })
}

// count returns how many lines there are, where what stands behind the last line feed is one only if it is not empty.
func count(lines []string) int {
	if lines[len(lines)-1] == "" {
		return len(lines) - 1
	}
	return len(lines)
}

// reader collects a drawing from its lines.
type reader struct {
	drawing api.Drawing
	begun   bool
}

// take reads the words of a line.
func (r *reader) take(line []string) api.Errno {
	if len(line) == 0 || strings.HasPrefix(line[0], "#") {
		return api.OK
	}
	read, known := r.lines()[line[0]]
	if !known || r.begun == (line[0] == heading) {
		return api.ErrSyntax
	}
	return read(&scan{rest: line[1:]})
}

// heading is the first word of the first line.
const heading = "drawing"

// lines returns the functions that read lines, by their first words.
func (r *reader) lines() map[string]func(s *scan) api.Errno {
	return map[string]func(s *scan) api.Errno{
		heading:     r.heading,
		"feature":   r.feature,
		"frame":     r.frame,
		"dimension": r.dimension,
	}
}

func (r *reader) heading(s *scan) api.Errno {
	r.drawing.Name, r.begun = s.word(), true
	return checks.First(s.end, checks.Each(dimension.Name, r.drawing.Name))
}

func (r *reader) feature(s *scan) api.Errno {
	kinds, axes := words.Kinds(), words.Axes()
	f := api.Feature{Name: s.word(), Kind: s.choice(kinds[:]...), Axis: s.choice(axes[:]...)}
	s.choice("at")
	f.At = api.Spot{X: s.number(), Y: s.number(), Z: s.number()}
	if f.Kind != api.KindPlane {
		s.choice("size")
		f.Size = s.limits()
	}
	if e := checks.First(s.end, checks.Each(feature.Check, f)); e != api.OK {
		return e
	}
	i, twice := search(r.drawing.Features, f.Name)
	if twice {
		return api.ErrTwice
	}
	r.drawing.Features = slices.Insert(r.drawing.Features, i, f)
	return api.OK
}

func (r *reader) frame(s *scan) api.Errno {
	name := s.word()
	x, e := frame.Parse(strings.Join(s.rest, " "))
	if e != api.OK {
		return api.ErrSyntax
	}
	i, ok := search(r.drawing.Features, name)
	if !ok {
		return api.ErrNone
	}
	// The frames before are right, so that any error is that of the new one. They have different characteristics, of which no feature may have as many as MaxFrames.
	f := r.drawing.Features[i]
	f.Frames = append(f.Frames, x)
	r.drawing.Features[i] = f
	return frame.All(f)
}

func (r *reader) dimension(s *scan) api.Errno {
	axes := words.Axes()
	d := api.Dimension{From: s.word(), To: s.word(), Axis: s.choice(axes[:]...), Limits: s.limits()}
	if e := checks.First(s.end, checks.Each(dimension.Valid, d)); e != api.OK {
		return e
	}
	i, twice := slices.BinarySearchFunc(r.drawing.Dimensions, d, compare)
	if twice {
		return api.ErrTwice
	}
	r.drawing.Dimensions = slices.Insert(r.drawing.Dimensions, i, d)
	return api.OK
}

// finish returns the error of the whole.
func (r *reader) finish() api.Errno {
	return checks.First(
		checks.When(!r.begun, api.ErrEmpty),
		checks.Each(Check, r.drawing),
	)
}
