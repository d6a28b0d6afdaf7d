package pick_test

import (
	"slices"
	"testing"

	"metrolab/pick"
)

func TestAt(t *testing.T) {
	l := []string{"a", "b", "c"}
	for _, x := range []struct{ indices, want string }{{"", ""}, {"1", "b"}, {"012", "abc"}, {"2002", "caac"}} {
		var indices []int
		for _, digit := range x.indices {
			indices = append(indices, int(digit-'0'))
		}
		var want []string
		for _, letter := range x.want {
			want = append(want, string(letter))
		}
		if got := pick.At(l, indices); !slices.Equal(got, want) {
			t.Errorf("At(%s): %s instead of %s", x.indices, got, x.want)
		}
	}
	got := pick.At(l, []int{0, 1, 2})
	if got[0] = "z"; l[0] != "a" {
		t.Error("the elements are not new")
	}
}

func TestSets(t *testing.T) {
	for _, x := range []struct {
		n, least, most int
		want           [][]int
	}{
		{0, 0, 0, [][]int{{}}}, {3, 0, 0, [][]int{{}}}, {0, 1, 4, nil}, {3, 2, 1, nil}, {2, 3, 3, nil}, {1, 1, 3, [][]int{{0}}}, {3, 3, 3, [][]int{{0, 1, 2}}}, {4, 2, 2, [][]int{{0, 1}, {0, 2}, {0, 3}, {1, 2}, {1, 3}, {2, 3}}},
		{3, 0, 9, [][]int{{}, {0}, {1}, {2}, {0, 1}, {0, 2}, {1, 2}, {0, 1, 2}}}, {4, 3, 4, [][]int{{0, 1, 2}, {0, 1, 3}, {0, 2, 3}, {1, 2, 3}, {0, 1, 2, 3}}},
	} {
		var got [][]int
		for set := range pick.Sets(x.n, x.least, x.most) {
			got = append(got, slices.Clone(set))
		}
		if !slices.EqualFunc(got, x.want, slices.Equal) {
			t.Errorf("Sets(%d, %d, %d): %v instead of %v", x.n, x.least, x.most, got, x.want)
		}
	}
	count := 0
	for range pick.Sets(5, 1, 3) {
		if count++; count == 8 {
			break
		}
	}
	if count != 8 {
		t.Errorf("%d sets instead of 8", count)
	}
}
