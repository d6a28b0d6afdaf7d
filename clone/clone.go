// Package clone copies features with all of their lists, so that the copies share no memory with what they are copies of.
package clone

import (
	"slices"

	"metrolab/api"
)

// Feature returns a copy of a feature.
func Feature(f api.Feature) api.Feature {
	f.Frames = each(f.Frames, Frame)
	return f
}

// Features returns copies of features.
func Features(l []api.Feature) []api.Feature { return each(l, Feature) }

// Frame returns a copy of a frame.
func Frame(x api.Frame) api.Frame {
	x.Datums = slices.Clone(x.Datums)
	return x
}

// each returns the copies of the elements of a list.
func each[T any](l []T, one func(T) T) []T {
	copies := slices.Clone(l)
	for i, x := range copies {
		copies[i] = one(x)
	}
	return copies
}
