package dist_test

import (
	"fmt"
	"math"
	"slices"
	"testing"

	"metrolab/api"
	"metrolab/dist"
)

// P26.2
func TestUniform(t *testing.T) {
	for _, x := range []struct {
		low, high, step int
		l               []api.Weighted
		e               api.Errno
	}{
		{-1, 4, 2, list("-1:1 1:1 3:1"), api.OK}, {-1, 5, 2, list("-1:1 1:1 3:1 5:1"), api.OK}, {5, 5, 9, list("5:1"), api.OK}, {5, 13, 9, list("5:1"), api.OK}, {5, 14, 9, list("5:1 14:1"), api.OK}, {-3, -1, 1, list("-3:1 -2:1 -1:1"), api.OK},
		{-1048576, 1048576, 1048576, list("-1048576:1 0:1 1048576:1"), api.OK}, {-1048576, 1048575, 1048576, list("-1048576:1 0:1"), api.OK}, {1048576, 1048576, 1, list("1048576:1"), api.OK}, {0, 4095, 1, row(4096), api.OK},
		{-1048577, 0, 1, nil, api.ErrRange}, {1048577, 0, 1, nil, api.ErrRange}, {0, 1048577, 1, nil, api.ErrRange}, {0, -1048577, 1, nil, api.ErrRange}, {math.MinInt, math.MaxInt, 1, nil, api.ErrRange}, {0, math.MinInt, 1, nil, api.ErrRange}, {math.MaxInt, 0, 1, nil, api.ErrRange},
		{0, 4, 0, nil, api.ErrRange}, {0, 4, -1, nil, api.ErrRange}, {0, 4, 1048577, nil, api.ErrRange}, {0, 4, math.MinInt, nil, api.ErrRange}, {0, 4, math.MaxInt, nil, api.ErrRange}, {4, 0, 0, nil, api.ErrRange},
		{5, 4, 1, nil, api.ErrOrder}, {1048576, -1048576, 1, nil, api.ErrOrder}, {0, -1, 1048576, nil, api.ErrOrder},
		{0, 4096, 1, nil, api.ErrMany}, {-1048576, 1048576, 1, nil, api.ErrMany}, {-1048576, 1048576, 512, nil, api.ErrMany}, {0, 8192, 2, nil, api.ErrMany},
	} {
		l, e := dist.Uniform(x.low, x.high, x.step)
		expect(t, fmt.Sprint("Uniform ", x.low, x.high, x.step), results(l, e), results(x.l, x.e))
	}
	for _, x := range [][3]int{{-1048576, 1048576, 513}, {0, 8191, 2}, {0, 8190, 2}} {
		l, e := dist.Uniform(x[0], x[1], x[2])
		count := (x[1]-x[0])/x[2] + 1
		expect(t, fmt.Sprint("Uniform ", x), results(len(l), dist.Check(l), e), results(count, api.OK, api.OK))
		if len(l) == count {
			expect(t, fmt.Sprint("Uniform ", x), results(l[count-1]), results(api.Weighted{Value: x[0] + (count-1)*x[2], Weight: "1"}))
		}
	}
}

// P26.2
func TestBinomial(t *testing.T) {
	for _, x := range []struct {
		n, num, den int
		l           []api.Weighted
		e           api.Errno
	}{
		{3, 1, 3, list("0:8 1:12 2:6 3:1"), api.OK}, {3, 2, 3, list("0:1 1:6 2:12 3:8"), api.OK}, {2, 2, 4, list("0:4 1:8 2:4"), api.OK}, {4, 1, 2, list("0:1 1:4 2:6 3:4 4:1"), api.OK}, {1, 1048575, 1048576, list("0:1 1:1048575"), api.OK},
		{0, 1, 3, list("0:1"), api.OK}, {0, 0, 3, list("0:1"), api.OK}, {0, 3, 3, list("0:1"), api.OK}, {2, 0, 5, list("0:25"), api.OK}, {2, 5, 5, list("2:25"), api.OK}, {256, 0, 1, list("0:1"), api.OK}, {256, 1, 1, list("256:1"), api.OK},
		{-1, 1, 2, nil, api.ErrRange}, {257, 1, 2, nil, api.ErrRange}, {math.MinInt, 1, 2, nil, api.ErrRange}, {math.MaxInt, 1, 2, nil, api.ErrRange}, {3, 0, 0, nil, api.ErrRange}, {3, 1, -2, nil, api.ErrRange}, {3, -1, -1, nil, api.ErrRange}, {3, 1, 1048577, nil, api.ErrRange}, {3, 1, math.MaxInt, nil, api.ErrRange}, {3, math.MinInt, math.MinInt, nil, api.ErrRange},
		{3, 4, 3, nil, api.ErrRange}, {3, -1, 3, nil, api.ErrRange}, {3, math.MinInt, 3, nil, api.ErrRange}, {3, math.MaxInt, 3, nil, api.ErrRange}, {0, 2, 1, nil, api.ErrRange}, {256, 1048577, 1048576, nil, api.ErrRange},
		{256, 1, 1048576, nil, api.ErrLarge}, {256, 1048575, 1048576, nil, api.ErrLarge}, {256, 524288, 1048576, nil, api.ErrLarge}, {256, 0, 1048576, nil, api.ErrLarge}, {256, 1048576, 1048576, nil, api.ErrLarge}, {256, 0, 10001, nil, api.ErrLarge}, {256, 10000, 10000, nil, api.ErrLarge},
		{256, 0, 9999, nil, api.OK}, {256, 9999, 9999, nil, api.OK}, {170, 0, 1048576, nil, api.OK}, {171, 0, 1048576, nil, api.ErrLarge}, {200, 500, 1001, nil, api.OK},
	} {
		l, e := dist.Binomial(x.n, x.num, x.den)
		what := fmt.Sprint("Binomial ", x.n, x.num, x.den)
		if x.l == nil && x.e == api.OK { // too long to be written here
			x.l = binomial(x.n, x.num, x.den)
		}
		expect(t, what, results(l, e), results(x.l, x.e))
	}
}

// P26.2
func TestScale(t *testing.T) {
	for _, x := range []struct {
		l     []api.Weighted
		k, by int
		want  []api.Weighted
		e     api.Errno
	}{
		{example(), -2, 10, list("2:1 6:2 8:1"), api.OK}, {example(), 3, 0, list("3:1 6:2 12:1"), api.OK}, {example(), 1, 0, example(), api.OK}, {example(), -1, 0, list("-4:1 -2:2 -1:1"), api.OK}, {list("-1:5 0:6 7:8"), -1, 7, list("0:8 7:6 8:5"), api.OK}, {list("-1:5 0:6 7:8"), 1, -7, list("-8:5 -7:6 0:8"), api.OK},
		{list("0:1"), 1048576, 1048576, list("1048576:1"), api.OK}, {list("0:1"), -1048576, -1048576, list("-1048576:1"), api.OK}, {list("-1:1 1:2"), 1048576, 0, list("-1048576:1 1048576:2"), api.OK}, {list("-1048576:1"), -1, 0, list("1048576:1"), api.OK}, {list("1048576:3"), 1, -1048576, list("0:3"), api.OK}, {list("2:3"), 1048576, -1048576, list("1048576:3"), api.OK},
		{example(), 0, 1, nil, api.ErrZero}, {example(), 0, math.MaxInt, nil, api.ErrZero}, {example(), 1048577, 0, nil, api.ErrRange}, {example(), -1048577, 0, nil, api.ErrRange}, {example(), 1, 1048577, nil, api.ErrRange}, {example(), 1, -1048577, nil, api.ErrRange}, {list("0:1"), 1048577, 0, nil, api.ErrRange}, {list("0:1"), math.MinInt, 0, nil, api.ErrRange}, {list("0:1"), 1, math.MaxInt, nil, api.ErrRange},
		{list("1048576:1"), 1, -1048577, nil, api.ErrRange}, {example(), 1048576, 0, nil, api.ErrRange}, {example(), -1048576, 0, nil, api.ErrRange}, {example(), 1, 1048573, nil, api.ErrRange}, {example(), -1, -1048573, nil, api.ErrRange}, {example(), -1, 1048576, list("1048572:1 1048574:2 1048575:1"), api.OK}, {list("-1:1 1:2"), 1048576, 1, nil, api.ErrRange}, {list("-1:1 1:2"), 1048576, -1, nil, api.ErrRange}, {list("-1048576:1 1048576:1"), -1048576, 1048576, nil, api.ErrRange},
	} {
		l, e := dist.Scale(x.l, x.k, x.by)
		expect(t, fmt.Sprint("Scale ", x.l, x.k, x.by), results(l, e), results(x.want, x.e))
	}
}

// P26.2
func TestReduce(t *testing.T) {
	for _, x := range []struct{ l, want []api.Weighted }{
		{list("0:6 1:9 2:3"), list("0:2 1:3 2:1")}, {list("0:6 1:9 2:4"), list("0:6 1:9 2:4")}, {list("0:6 1:10 2:15"), list("0:6 1:10 2:15")}, {list("0:12 1:18 2:30"), list("0:2 1:3 2:5")}, {list("-8:" + nines(1024)), list("-8:1")}, {list("-8:" + nines(1024) + " 3:9"), list("-8:" + string(slices.Repeat([]byte("1"), 1024)) + " 3:1")}, {example(), example()}, {list("5:1"), list("5:1")},
	} {
		l, e := dist.Reduce(x.l)
		expect(t, "Reduce "+short(x.l), results(l, e), results(x.want, api.OK))
	}
}

// P26.2
func TestCollect(t *testing.T) {
	long := nines(1025)
	many := slices.Repeat(list("5:1"), 4096)
	for _, x := range []struct {
		l, want []api.Weighted
		e       api.Errno
	}{
		{list("4:1 1:0 2:5 4:2"), list("2:5 4:3"), api.OK}, {list("-4:0 -4:3 -9:1 0:0 1048576:7 -1048576:8 -4:0"), list("-1048576:8 -9:1 -4:3 1048576:7"), api.OK}, {example(), example(), api.OK}, {list("1:" + nines(1024) + " 0:1 1:0"), list("0:1 1:" + nines(1024)), api.OK}, {many, list("5:4096"), api.OK}, {row(4096), row(4096), api.OK},
		{nil, nil, api.ErrEmpty}, {list("1:0"), nil, api.ErrEmpty}, {list("1:0 2:0 1:0"), nil, api.ErrEmpty}, {make([]api.Weighted, 4097), nil, api.ErrMany}, {append(many, many[0]), nil, api.ErrMany}, {make([]api.Weighted, 4096), nil, api.ErrForm},
		{list("1:-1"), nil, api.ErrRange}, {list("1:3 1:-1"), nil, api.ErrRange}, {list("1:-" + nines(1024)), nil, api.ErrRange}, {list("1048577:1"), nil, api.ErrRange}, {list("-1048577:1"), nil, api.ErrRange}, {list("1048577:0"), nil, api.ErrRange}, {list("9223372036854775807:1"), nil, api.ErrRange}, {list("-9223372036854775808:0"), nil, api.ErrRange},
		{list("1:"), nil, api.ErrForm}, {list("1:00"), nil, api.ErrForm}, {list("1:-0"), nil, api.ErrForm}, {list("1:" + long), nil, api.ErrLarge}, {list("1048577:-" + long), nil, api.ErrLarge}, {list("1048577:x"), nil, api.ErrForm},
		// the first element with an error, and then a sum that is too long
		{list("1:0 2:-1 3:x"), nil, api.ErrRange}, {list("1:0 2:x 3:-1"), nil, api.ErrForm}, {list("1:" + nines(1024) + " 1:1"), nil, api.ErrLarge}, {list("1:1 2:7 1:" + nines(1024)), nil, api.ErrLarge}, {list("1:" + nines(1024) + " 1:1 2:-1"), nil, api.ErrRange}, {list("1:" + nines(1024) + " 1:1 2:x"), nil, api.ErrForm}, {list("1:" + nines(1024) + " 2:1"), list("1:" + nines(1024) + " 2:1"), api.OK},
	} {
		l, e := dist.Collect(x.l)
		expect(t, "Collect "+short(x.l), results(l, e), results(x.want, x.e))
	}
}
