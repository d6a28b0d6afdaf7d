package stack

import (
	"iter"

	"metrolab/api"
)

// end is an end of the stack of a task: its least sum or its greatest one.
type end struct {
	Task
	value func(l api.Limits, sign int) int // what a link that counts with this sign has at this end
}

func least(t Task) end {
	return end{t, func(l api.Limits, sign int) int {
		if sign < 0 {
			return l.High
		}
		return l.Low
	}}
}

func greatest(t Task) end {
	return end{t, func(l api.Limits, sign int) int {
		if sign < 0 {
			return l.Low
		}
		return l.High
	}}
}

func endOf(t Task, isGreatest bool) end {
	if isGreatest {
		return greatest(t)
	}
	return least(t)
}

// links yields, for each link, the index of its dimension and the sign with which its value counts.
func (n end) links() iter.Seq2[int, int] {
	return func(yield func(int, int) bool) {
		for _, x := range n.Chain {
			sign := 1
			if x.Back {
				sign = -1
			}
			if !yield(x.Dim, sign) {
				return
			}
		}
	}
}

// share returns the difference of the limits of a dimension.
func (n end) share(i int) int {
	l := n.Dimensions[i].Limits
	return l.High - l.Low
}

// sum returns the sum at this end.
func (n end) sum() int {
	sum := 0
	for i, sign := range n.links() {
		sum += sign * n.value(n.Dimensions[i].Limits, sign)
	}
	return sum
}

// part returns the part that attains this end.
func (n end) part() []int {
	part := make([]int, len(n.Dimensions))
	for i, d := range n.Dimensions {
		part[i] = d.Limits.Low
	}
	for i, sign := range n.links() {
		part[i] = n.value(n.Dimensions[i].Limits, sign)
	}
	return part
}
