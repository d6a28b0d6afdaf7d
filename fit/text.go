package fit

import (
	"strings"

	"metrolab/api"
	"metrolab/grades"
	"metrolab/lexer"
	"metrolab/ratio"
	"metrolab/units"
)

// Text returns the text of a fit.
func Text(f Fit) (string, api.Errno) {
	if e := Check(f); e != api.OK {
		return "", e
	}
	mm, e := ratio.Of(f.Size, 1000)
	if e != api.OK {
		return "", e
	}
	size, e := lexer.Decimal(mm)
	if e != api.OK {
		return "", e
	}
	hole, e := grades.Format(f.Hole)
	if e != api.OK {
		return "", e
	}
	shaft, e := grades.Format(f.Shaft)
	if e != api.OK {
		return "", e
	}
	return size + " " + hole + "/" + shaft, api.OK
}

// Parse returns the fit with a text.
func Parse(text string) (Fit, api.Errno) {
	if len(text) > api.MaxText {
		return Fit{}, api.ErrLong
	}
	mm, classes, _ := strings.Cut(text, " ")
	hole, shaft, _ := strings.Cut(classes, "/")
	// A part that cannot be read is zero, and a fit with such a part is not right.
	var f Fit
	f.Size, _ = units.Parse(mm + " mm")
	f.Hole, _ = grades.Parse(hole)
	f.Shaft, _ = grades.Parse(shaft)
	// There are other ways to write the parts, such as 25.0.
	if written, e := Text(f); e != api.OK || written != text {
		return Fit{}, api.ErrSyntax
	}
	return f, api.OK
}
