package discs

import (
	"iter"

	"metrolab/api"
	"metrolab/pairs"
	"metrolab/reckon"
)

// Witness names a place: the center of the disc I (J = I and Side 0), or a common place of the circles of I and J, on the left (Side 1) or on the right (Side -1) of the way from the center of I to that of J, or the only one (Side 0).
type Witness struct{ I, J, Side int }

// check returns the error of a witness for n discs.
func (w Witness) check(n int) api.Errno {
	switch {
	case w.I < 0, w.I >= n, w.J < 0, w.J >= n:
		return api.ErrRange
	case w.J < w.I:
		return api.ErrOrder
	case w.Side < -1, w.Side > 1:
		return api.ErrArg
	}
	return api.OK
}

// witnesses yields the witnesses for n discs in order, also those that name no place.
func witnesses(n int) iter.Seq[Witness] {
	return func(yield func(Witness) bool) {
		for i := range n {
			if !yield(Witness{I: i, J: i}) {
				return
			}
		}
		for i, j := range pairs.Indices(n) {
			for _, side := range []int{0, 1, -1} {
				if !yield(Witness{I: i, J: j, Side: side}) {
					return
				}
			}
		}
	}
}

// common returns the first witness that is in all discs, and whether there is one.
func common(k *reckon.Keeper, l []api.Disc) (Witness, bool) {
	for w := range witnesses(len(l)) {
		proof := proves(k, l, w)
		if k.Errno != api.OK {
			break
		}
		if proof {
			return w, true
		}
	}
	return Witness{}, false
}

// proves reports whether a witness names a place that is in all discs.
func proves(k *reckon.Keeper, l []api.Disc, w Witness) bool {
	inside := place(k, l, w)
	return inside != nil && all(l, inside)
}

// all reports whether a place is in all discs.
func all(l []api.Disc, inside func(d api.Disc) bool) bool {
	for _, d := range l {
		if !inside(d) {
			return false
		}
	}
	return true
}

// place returns the place that a witness names, as a function that reports whether it is in a disc; nil if it names none.
func place(k *reckon.Keeper, l []api.Disc, w Witness) func(d api.Disc) bool {
	a, b := l[w.I], l[w.J]
	switch {
	case w == Witness{I: w.I, J: w.I}:
		return func(d api.Disc) bool { return contains(k, d, a.Center) }
	case a.Center != b.Center && k.Sign(scaled(k, a, b).width()) == w.Side*w.Side:
		return func(d api.Disc) bool { return scaled(k, a, b, d).inside(w.Side) }
	}
	return nil
}
