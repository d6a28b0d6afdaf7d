package feature

import (
	"metrolab/api"
	"metrolab/checks"
	"metrolab/clone"
)

// coordinates returns functions that read and write the coordinates of a place.
func coordinates(p *api.Spot) (read func(axis int) int, write func(axis, n int)) {
	l := [api.Axes]*int{&p.X, &p.Y, &p.Z}
	return func(axis int) int { return *l[axis] }, func(axis, n int) { *l[axis] = n }
}

// checkPlace returns the error of a place, or of a way from one place to another.
func checkPlace(p api.Spot) api.Errno {
	read, _ := coordinates(&p)
	for axis := range api.Axes {
		if n := read(axis); n < -api.MaxCoord || n > api.MaxCoord {
			return api.ErrRange
		}
	}
	return api.OK
}

// Move returns a feature that is moved.
func Move(f api.Feature, by api.Spot) (api.Feature, api.Errno) {
	at := api.Spot{X: f.At.X + by.X, Y: f.At.Y + by.Y, Z: f.At.Z + by.Z}
	if e := checks.First(checks.Each(Check, f), checks.Each(checkPlace, by, at)); e != api.OK {
		return api.Feature{}, e
	}
	return place(f, at), api.OK
}

// Mirror returns a feature that is mirrored at the plane through the origin, square to an axis.
func Mirror(f api.Feature, axis int) (api.Feature, api.Errno) {
	if e := checkAlong(f, axis); e != api.OK {
		return api.Feature{}, e
	}
	at := f.At
	read, write := coordinates(&at)
	write(axis, -read(axis))
	return place(f, at), api.OK
}

// Turn returns a feature that is turned by a quarter around an axis through the origin.
func Turn(f api.Feature, axis int) (api.Feature, api.Errno) {
	if e := checkAlong(f, axis); e != api.OK {
		return api.Feature{}, e
	}
	next, last := (axis+1)%api.Axes, (axis+2)%api.Axes
	at := f.At
	read, _ := coordinates(&f.At)
	_, write := coordinates(&at)
	write(next, -read(last))
	write(last, read(next))
	turned := place(f, at)
	switch {
	case f.Kind == api.KindBall: // it goes along no axis
	case f.Axis == next:
		turned.Axis = last
	case f.Axis == last:
		turned.Axis = next
	}
	return turned, api.OK
}

// place returns a new feature at another place, which shares no frames with the old one.
func place(f api.Feature, at api.Spot) api.Feature {
	f.At = at
	return clone.Feature(f)
}
