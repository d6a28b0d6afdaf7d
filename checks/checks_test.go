package checks_test

import (
	"testing"

	"metrolab/api"
	"metrolab/checks"
)

// counted returns a check with an error, and counts how often it is called.
func counted(calls *int, e api.Errno) func() api.Errno {
	return func() api.Errno {
		*calls++
		return e
	}
}

func TestFirst(t *testing.T) {
	for _, x := range []struct {
		errors      []api.Errno
		want, calls int
	}{
		{nil, 0, 0},
		{[]api.Errno{api.OK}, 0, 1},
		{[]api.Errno{api.OK, api.OK, api.OK}, 0, 3},
		{[]api.Errno{api.ErrArg, api.ErrRange}, 1, 1},
		{[]api.Errno{api.OK, api.ErrRange, api.ErrArg}, 2, 2},
		{[]api.Errno{api.OK, api.OK, api.ErrForm}, 3, 3},
	} {
		calls := 0
		var l []func() api.Errno
		for _, e := range x.errors {
			l = append(l, counted(&calls, e))
		}
		if e := checks.First(l...); e != api.Errno(x.want) || calls != x.calls {
			t.Errorf("First %v: %d with %d calls", x.errors, e, calls)
		}
		want := "value"
		if x.want != 0 {
			want = ""
		}
		if s, e := checks.Result("value", l...); s != want || e != api.Errno(x.want) {
			t.Errorf("Result %v: %q %d", x.errors, s, e)
		}
	}
}

func TestEach(t *testing.T) {
	var asked []int
	check := func(n int) api.Errno {
		asked = append(asked, n)
		return api.Errno(n)
	}
	for _, x := range []struct {
		values      []int
		want, calls int
	}{{nil, 0, 0}, {[]int{0, 0}, 0, 2}, {[]int{0, 5, 0, 6}, 5, 2}, {[]int{7, 5}, 7, 1}} {
		asked = nil
		each := checks.Each(check, x.values...)
		if len(asked) > 0 {
			t.Errorf("Each %v: calls before it is called", x.values)
		}
		if e := each(); e != api.Errno(x.want) || len(asked) != x.calls {
			t.Errorf("Each %v: %d with %d calls", x.values, e, len(asked))
		}
	}
}

func TestWhen(t *testing.T) {
	if e := checks.When(true, api.ErrZero)(); e != api.ErrZero {
		t.Errorf("When true: %d", e)
	}
	if e := checks.When(false, api.ErrZero)(); e != api.OK {
		t.Errorf("When false: %d", e)
	}
}
