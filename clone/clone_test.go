package clone_test

import (
	"reflect"
	"testing"

	"metrolab/api"
	"metrolab/clone"
)

func some() []api.Feature {
	return []api.Feature{
		{Name: "A", Kind: 1, Axis: 2, At: api.Spot{X: 1, Y: 2, Z: 3}, Size: api.Limits{Low: 4, High: 5}},
		{Name: "B", Frames: []api.Frame{{Kind: 1}, {Kind: 8, Disc: true, Tol: 2, Material: 1, Datums: []api.Datum{{Name: "A", Material: 2}, {Name: "C"}}}}},
	}
}

// spoil changes everything in the memory of features.
func spoil(l []api.Feature) {
	for i, f := range l {
		for j, x := range f.Frames {
			clear(x.Datums)
			f.Frames[j] = api.Frame{}
		}
		l[i] = api.Feature{}
	}
}

func TestFeatures(t *testing.T) {
	l, want := some(), some()
	all, one, frame := clone.Features(l), clone.Feature(l[1]), clone.Frame(l[1].Frames[1])
	if !reflect.DeepEqual(all, want) || !reflect.DeepEqual(one, want[1]) || !reflect.DeepEqual(frame, want[1].Frames[1]) {
		t.Errorf("%v, %v, %v instead of %v", all, one, frame, want)
	}
	spoil(l)
	if !reflect.DeepEqual(all, want) || !reflect.DeepEqual(one, want[1]) || !reflect.DeepEqual(frame, want[1].Frames[1]) {
		t.Errorf("%v, %v, %v share memory with what they are copies of", all, one, frame)
	}
	if none := clone.Features(nil); len(none) != 0 {
		t.Errorf("%v instead of none", none)
	}
}
