package pairs_test

import (
	"reflect"
	"testing"

	"metrolab/pairs"
)

func TestAround(t *testing.T) {
	for _, x := range []struct {
		l    string
		want []string
	}{{"", nil}, {"a", []string{"aa"}}, {"ab", []string{"ab", "ba"}}, {"abcd", []string{"ab", "bc", "cd", "da"}}} {
		var got []string
		for a, b := range pairs.Around([]byte(x.l)) {
			got = append(got, string([]byte{a, b}))
		}
		if !reflect.DeepEqual(got, x.want) {
			t.Errorf("Around(%q): %q instead of %q", x.l, got, x.want)
		}
	}
}

func TestIndices(t *testing.T) {
	for n, want := range [][][2]int{nil, nil, {{0, 1}}, {{0, 1}, {0, 2}, {1, 2}}, {{0, 1}, {0, 2}, {0, 3}, {1, 2}, {1, 3}, {2, 3}}} {
		var got [][2]int
		for i, j := range pairs.Indices(n) {
			got = append(got, [2]int{i, j})
		}
		if !reflect.DeepEqual(got, want) {
			t.Errorf("Indices(%d): %v instead of %v", n, got, want)
		}
	}
}

func TestBreak(t *testing.T) {
	count := 0
	for range pairs.Around([]int{1, 2, 3}) {
		count++
		break
	}
	for range pairs.Indices(3) {
		count++
		if count == 3 {
			break
		}
	}
	if count != 3 {
		t.Errorf("%d pairs instead of 3", count)
	}
}
