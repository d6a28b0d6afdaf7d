package interval

import (
	"cmp"
	"slices"

	"metrolab/api"
	"metrolab/ratio"
	"metrolab/reckon"
)

// keepSet keeps the first error of a set, and reports whether there was none before.
func keepSet(k *reckon.Keeper, l []api.Span) bool {
	if len(l) > api.MaxList {
		k.Keep(api.ErrMany)
	}
	if k.Errno == api.OK {
		keep(k, l...)
	}
	return k.Errno == api.OK
}

// Normal returns the normal set with the numbers of a set.
func Normal(l []api.Span) ([]api.Span, api.Errno) {
	return combined(l, nil, func(in, _ bool) bool { return in })
}

// Union returns the normal set of the numbers of both sets.
func Union(a, b []api.Span) ([]api.Span, api.Errno) {
	return combined(a, b, func(first, second bool) bool { return first || second })
}

// Intersection returns the normal set of the numbers that are in both sets.
func Intersection(a, b []api.Span) ([]api.Span, api.Errno) {
	return combined(a, b, func(first, second bool) bool { return first && second })
}

// Difference returns the normal set of the numbers of the first set that are not in the second one, with its ends.
func Difference(a, b []api.Span) ([]api.Span, api.Errno) {
	return combined(a, b, func(first, second bool) bool { return first && !second })
}

// combined returns the normal set of the numbers that belong to a combination of two sets.
func combined(a, b []api.Span, belongs func(first, second bool) bool) ([]api.Span, api.Errno) {
	return reckon.Result(func(k *reckon.Keeper) []api.Span {
		if !keepSet(k, a) || !keepSet(k, b) {
			return nil
		}
		s := sweep{belongs: belongs}
		s.along(ordered(k, append(ends(a, 0), ends(b, 1)...)))
		if len(s.found) > api.MaxList {
			k.Keep(api.ErrLimit)
		}
		return s.found
	})
}

// Holds reports whether a number is in some span of a set.
func Holds(l []api.Span, x api.Rat) (bool, api.Errno) {
	return reckon.Result(func(k *reckon.Keeper) bool {
		if !keepSet(k, l) {
			return false
		}
		k.Keep(ratio.Check(x))
		held := false
		for _, a := range l {
			held = inside(k, api.Span{Low: x, High: x}, a) || held
		}
		return held
	})
}

// Length returns the sum of the widths of the spans of the normal set.
func Length(l []api.Span) (api.Rat, api.Errno) {
	normal, e := Normal(l)
	if e != api.OK {
		return "", e
	}
	return reckon.Result(func(k *reckon.Keeper) api.Rat {
		total := api.Rat("0")
		for _, a := range normal {
			total = k.Of(ratio.Add, total, k.Of(ratio.Sub, a.High, a.Low))
		}
		return total
	})
}

// end is an end of a span.
type end struct {
	at   api.Rat
	set  int // the first or the second one, 0 or 1
	step int // 1 where the span begins, -1 where it ends
}

func ends(l []api.Span, set int) []end {
	var found []end
	for _, a := range l {
		found = append(found, end{a.Low, set, 1}, end{a.High, set, -1})
	}
	return found
}

// ordered sorts ends by their numbers, and those where spans begin before others at the same number.
// They are sorted by their texts before, so that the same pairs are compared (and perhaps are too long) whatever order they were given in.
func ordered(k *reckon.Keeper, l []end) []end {
	slices.SortFunc(l, func(x, y end) int {
		return cmp.Or(cmp.Compare(x.at, y.at), cmp.Compare(y.step, x.step))
	})
	slices.SortFunc(l, func(x, y end) int {
		return cmp.Or(k.Order(x.at, y.at), cmp.Compare(y.step, x.step))
	})
	return l
}

// sweep goes along the ends of the spans of two sets, and collects the normal set of the numbers that belong to a combination of them.
type sweep struct {
	belongs func(first, second bool) bool
	open    [2]int // how many spans of each set have begun and not ended
	found   []api.Span
}

// along collects each number with an end, where all spans that begin there are open and none has ended yet, and the numbers up to the next one.
func (s *sweep) along(l []end) {
	for len(l) > 0 {
		at := l[0].at
		l = s.pass(l, at, 1)
		s.collect(at, at)
		l = s.pass(l, at, -1)
		if len(l) > 0 {
			s.collect(at, l[0].at)
		}
	}
}

// pass counts the ends at a number where spans begin, or end, and returns those behind them.
func (s *sweep) pass(l []end, at api.Rat, step int) []end {
	for len(l) > 0 && l[0].at == at && l[0].step == step {
		s.open[l[0].set] += step
		l = l[1:]
	}
	return l
}

// collect adds a number, or the numbers between two, if they belong to the combination. Pieces that touch grow together, as their ends belong to them.
func (s *sweep) collect(low, high api.Rat) {
	if !s.belongs(s.open[0] > 0, s.open[1] > 0) {
		return
	}
	if last := len(s.found) - 1; last >= 0 && s.found[last].High == low {
		s.found[last].High = high
		return
	}
	s.found = append(s.found, api.Span{Low: low, High: high})
}
