package printer

import (
	"slices"
	"strings"

	"metrolab/api"
	"metrolab/checks"
	"metrolab/drawing"
	"metrolab/frame"
)

// What stands before the lines of changes.
const (
	minus = "- "
	plus  = "+ "
)

// openings are what lines begin with, in the order in which changes leave them.
var openings = [...]string{heading, ofFeature, ofFrame, ofDimension}

// Changes returns the lines that lead from a drawing to another one.
func Changes(a, b api.Drawing) ([]string, api.Errno) {
	if e := checks.First(checks.Each(drawing.Check, a, b)); e != api.OK {
		return nil, e
	}
	remaining := shared(a, b)
	var l []string
	put := func(sign string, d api.Drawing) {
		for line := range lines(d) {
			if !remaining[line] {
				l = append(l, sign+line)
			}
		}
	}
	put(minus, a)
	put(plus, b)
	return l, api.OK
}

// shared returns the set of the lines that remain where one drawing becomes another one.
func shared(a, b api.Drawing) map[string]bool {
	there, both := set(a), map[string]bool{}
	for line := range lines(b) {
		if there[line] {
			both[line] = true
		}
	}
	namesakes := map[string]api.Feature{}
	for _, g := range b.Features {
		namesakes[g.Name] = g
	}
	for _, f := range a.Features {
		if !inOrder(f, namesakes[f.Name]) {
			for line := range frameLines(f) {
				delete(both, line)
			}
		}
	}
	return both
}

// set returns the set of the lines of a drawing.
func set(d api.Drawing) map[string]bool {
	there := map[string]bool{}
	for line := range lines(d) {
		there[line] = true
	}
	return there
}

// inOrder reports whether the frames that two features have are the first ones of both, in one order. Frames that are added come behind those that remain, so that others cannot remain.
func inOrder(f, g api.Feature) bool {
	n := 0
	for _, x := range f.Frames {
		if slices.ContainsFunc(g.Frames, func(y api.Frame) bool { return frame.Same(x, y) }) {
			n++
		}
	}
	return slices.EqualFunc(f.Frames[:n], g.Frames[:n], frame.Same)
}

// Apply returns the drawing to which changes lead.
func Apply(d api.Drawing, l []string) (api.Drawing, int, api.Errno) {
	if e := checks.First(
		checks.Each(drawing.Check, d),
		checks.When(len(l) > api.MaxEvents, api.ErrMany),
	); e != api.OK {
		return api.Drawing{}, 0, e
	}
	x := edit{there: set(d)}
	for i, change := range l {
		if e := x.apply(change); e != api.OK {
			return api.Drawing{}, i, e
		}
	}
	changed, _, e := drawing.Parse(joined(x.lines(d)))
	if e != api.OK {
		return api.Drawing{}, len(l), e
	}
	return changed, 0, api.OK
}

// edit has the lines of a drawing that are still there, and those that were added.
type edit struct {
	there map[string]bool
	added []string
}

func (x *edit) apply(change string) api.Errno {
	if line, ok := strings.CutPrefix(change, minus); ok {
		return x.remove(line)
	}
	if line, ok := strings.CutPrefix(change, plus); ok {
		return x.add(line)
	}
	return api.ErrSyntax
}

func (x *edit) remove(line string) api.Errno {
	if !x.there[line] {
		return api.ErrNone
	}
	delete(x.there, line)
	return api.OK
}

func (x *edit) add(line string) api.Errno {
	if !opened(line) || strings.Contains(line, "\n") {
		return api.ErrSyntax
	}
	x.added = append(x.added, line)
	return api.OK
}

// opened reports whether a line begins like one of a drawing.
func opened(line string) bool {
	if rest, ok := strings.CutPrefix(line, ofFrame); ok {
		return strings.Index(rest, " ") > 0
	}
	return slices.ContainsFunc(openings[:], func(opening string) bool { return strings.HasPrefix(line, opening) })
}

// lines returns the lines to which the changes of a drawing lead.
func (x *edit) lines(d api.Drawing) []string {
	var left []string
	for line := range lines(d) {
		if x.there[line] {
			left = append(left, line)
		}
	}
	var l []string
	for _, opening := range openings {
		first, second := left, x.added
		if opening == heading {
			first, second = second, first
		}
		l = slices.Concat(l, beginning(first, opening), beginning(second, opening))
	}
	return l
}

// beginning returns the lines that begin in some way.
func beginning(l []string, opening string) []string {
	var found []string
	for _, line := range l {
		if strings.HasPrefix(line, opening) {
			found = append(found, line)
		}
	}
	return found
}
