package feature

import (
	"slices"

	"metrolab/api"
)

// plainFeature and plainFrame are what is left of a feature and of a frame without their lists.
type plainFeature struct {
	name       string
	kind, axis int
	at         api.Spot
	size       api.Limits
}
type plainFrame struct {
	kind          int
	disc          bool
	tol, material int
}

// Same reports whether two features are equal, with their frames.
func Same(a, b api.Feature) bool {
	return same(a, b, func(f api.Feature) (plainFeature, []api.Frame) {
		return plainFeature{f.Name, f.Kind, f.Axis, f.At, f.Size}, f.Frames
	}, sameFrames)
}

func sameFrames(a, b api.Frame) bool {
	return same(a, b, func(x api.Frame) (plainFrame, []api.Datum) {
		return plainFrame{x.Kind, x.Disc, x.Tol, x.Material}, x.Datums
	}, func(a, b api.Datum) bool { return a == b })
}

// same reports whether two structures are equal, given how to split them into what can be compared at once, and a list of elements that are compared one by one.
func same[S any, P comparable, E any](a, b S, split func(S) (P, []E), equal func(a, b E) bool) bool {
	p, l := split(a)
	q, m := split(b)
	return p == q && slices.EqualFunc(l, m, equal)
}
