package pick_test

import (
	"slices"
	"testing"

	"metrolab/pick"
)

func TestAt(t *testing.T) {
	l := []string{"a", "b", "c"}
	for _, x := range []struct{ indices, want string }{{"", ""}, {"1", "b"}, {"012", "abc"}, {"2002", "caac"}} {
		var indices []int
		for _, digit := range x.indices {
			indices = append(indices, int(digit-'0'))
		}
		var want []string
		for _, letter := range x.want {
			want = append(want, string(letter))
		}
		if got := pick.At(l, indices); !slices.Equal(got, want) {
			t.Errorf("At(%s): %s instead of %s", x.indices, got, x.want)
		}
	}
	got := pick.At(l, []int{0, 1, 2})
	if got[0] = "z"; l[0] != "a" {
		t.Error("the elements are not new")
	}
}
