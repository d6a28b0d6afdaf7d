package enclose

import (
	"slices"

	"metrolab/api"
	"metrolab/pick"
	"metrolab/reckon"
)

// answer is a ball with its support. In the plane there is no third coordinate.
type answer struct {
	center  [3]api.Rat
	square  api.Rat
	support []int
}

// most returns how many points may be independent.
func most[V coordinates](l []V) int { return len(l[0]) + 1 }

// exactly returns the ball around points.
func exactly[V coordinates](l []V) (answer, api.Errno) {
	if len(l) > most(l) {
		return answer{}, api.ErrMany
	}
	return reckon.Result(func(k *reckon.Keeper) answer {
		b, ok := around(k, l)
		if !ok {
			k.Keep(api.ErrZero)
			return answer{}
		}
		return answer{center: b.center(k), square: b.square(k)}
	})
}

// least returns the least ball that encloses points, with the first support.
func least[V coordinates](l []V) (answer, api.Errno) {
	return reckon.Result(func(k *reckon.Keeper) answer {
		b, support := first(k, l, touched(k, l))
		return answer{b.center(k), b.square(k), support}
	})
}

// touched returns the indices of the points on the least ball that encloses points; all supports are among them.
// From the first point on, the ball grows with one point after another that is outside of it.
func touched[V coordinates](k *reckon.Keeper, l []V) []int {
	b, support := first(k, l, []int{0})
	for {
		outside := slices.IndexFunc(l, func(p V) bool { return k.Sign(b.excess(k, p)) > 0 })
		if outside < 0 {
			break
		}
		b, support = first(k, l, append(support, outside))
	}
	var found []int
	for i, p := range l {
		if b.excess(k, p) == "0" {
			found = append(found, i)
		}
	}
	return found
}

// first returns the least ball that encloses the points at some indices, and its first support.
func first[V coordinates](k *reckon.Keeper, l []V, indices []int) (ball[V], []int) {
	points := pick.At(l, indices)
	for set := range pick.Sets(len(points), 1, most(l)) {
		b, ok := around(k, pick.At(points, set))
		if ok && b.central(k) && b.covers(k, points) {
			return b, pick.At(indices, set)
		}
	}
	return ball[V]{}, nil // never: there is a support for any points
}

// verify reports whether an answer is right for points.
func verify[V coordinates](l []V, a answer) (bool, api.Errno) {
	if e := reckon.Check(a.center[:len(l[0])], []api.Rat{a.square}); e != api.OK {
		return false, e
	}
	if e := check(a.support, len(l), most(l)); e != api.OK {
		return false, e
	}
	return reckon.Result(func(k *reckon.Keeper) bool {
		b, ok := around(k, pick.At(l, a.support))
		return ok && b.central(k) && b.covers(k, l) && b.center(k) == a.center && b.square(k) == a.square
	})
}

// check returns the error of a support of up to so many of n points.
func check(support []int, n, most int) api.Errno {
	switch {
	case len(support) == 0:
		return api.ErrEmpty
	case len(support) > most:
		return api.ErrMany
	}
	for i, index := range support {
		switch {
		case index < 0, index >= n:
			return api.ErrRange
		case i > 0 && index <= support[i-1]:
			return api.ErrOrder
		}
	}
	return api.OK
}
