package grades_test

import (
	"fmt"
	"math"
	"regexp"
	"slices"
	"strconv"
	"strings"
	"testing"

	"metrolab/api"
	"metrolab/grades"
)

// expect compares results; nil and empty slices are printed alike.
func expect(t *testing.T, what string, got, want []any) {
	t.Helper()
	if g, w := fmt.Sprintf("%+v", got), fmt.Sprintf("%+v", want); g != w {
		t.Errorf("%s: %s instead of %s", what, g, w)
	}
}

func results(l ...any) []any { return l }

// sizes are the first and the last size of each step, and some between them.
var sizes = [][]int{
	{1, 2, 24, 25, 999, 1000, 2999, 3000},
	{3001, 3002, 5000, 5999, 6000},
	{6001, 8000, 10000},
	{10001, 15000, 18000},
	{18001, 25000, 30000},
	{30001, 40000, 50000},
	{50001, 65000, 80000},
	{80001, 90000, 99648, 99999, 100000},
}

// tolerances are those of the grades 5 to 12, step by step.
var tolerances = [][]int{
	{4, 6, 10, 15, 24, 38, 60, 96},
	{6, 8, 13, 20, 32, 51, 80, 128},
	{6, 9, 14, 23, 36, 58, 90, 144},
	{8, 11, 18, 28, 44, 70, 110, 176},
	{9, 13, 21, 33, 52, 83, 130, 208},
	{11, 16, 26, 40, 64, 102, 160, 256},
	{13, 19, 30, 48, 76, 122, 190, 304},
	{15, 22, 35, 55, 88, 141, 220, 352},
}

// shifted are the values of S of the letters, step by step; j has none.
var shifted = [][]int{
	{30, 18, 9, 3, 0, 0, 1, 5, 9, 13},
	{40, 24, 12, 4, 0, 0, 1, 7, 12, 17},
	{45, 27, 14, 5, 0, 0, 1, 8, 13, 19},
	{55, 34, 17, 6, 0, 0, 2, 9, 16, 24},
	{65, 40, 20, 7, 0, 0, 2, 11, 19, 28},
	{80, 49, 25, 9, 0, 0, 3, 14, 24, 35},
	{95, 58, 30, 11, 0, 0, 3, 17, 28, 41},
	{110, 68, 35, 13, 0, 0, 4, 19, 33, 48},
}

var (
	beyond = []int{0, -1, 100001, math.MinInt, math.MaxInt}
	odd    = []int{-1, 4, 13, math.MinInt, math.MaxInt}
)

// model returns the deviations by the table.
func model(step int, c grades.Class) api.Limits {
	s, tolerance := shifted[step][c.Letter], tolerances[step][c.Grade-5]
	var l api.Limits
	switch name := "defghjkmnp"[c.Letter]; {
	case name == 'j':
		l = api.Limits{Low: -(tolerance / 2), High: tolerance / 2}
	case name < 'j':
		l = api.Limits{Low: -s - tolerance, High: -s}
	default:
		l = api.Limits{Low: s, High: s + tolerance}
	}
	if c.Hole {
		return api.Limits{Low: -l.High, High: -l.Low}
	}
	return l
}

// all has all classes in the order of Find.
func all() []grades.Class {
	var l []grades.Class
	for i := range 160 {
		l = append(l, grades.Class{Hole: i >= 80, Letter: i % 80 / 8, Grade: 5 + i%8})
	}
	return l
}

// wrong has what are no classes, with their errors.
func wrong() map[grades.Class]api.Errno {
	l := map[grades.Class]api.Errno{}
	for _, hole := range []bool{false, true} {
		for _, n := range odd {
			l[grades.Class{Hole: hole, Letter: 4, Grade: n}] = api.ErrRange
			if n != 4 {
				l[grades.Class{Hole: hole, Letter: n, Grade: 7}] = api.ErrArg
				l[grades.Class{Hole: hole, Letter: n, Grade: n}] = api.ErrArg
			}
		}
		l[grades.Class{Hole: hole, Letter: 10, Grade: 7}] = api.ErrArg
		l[grades.Class{Hole: hole}] = api.ErrRange
	}
	return l
}

// P15.1 and P15.3: texts.

func TestClasses(t *testing.T) {
	if grades.Letters != "defghjkmnp" || grades.MinGrade != 5 || grades.MaxGrade != 12 {
		t.Error("constants")
	}
	for _, c := range all() {
		text := "defghjkmnp"[c.Letter:c.Letter+1] + strconv.Itoa(c.Grade)
		if c.Hole {
			text = "DEFGHJKMNP"[c.Letter:c.Letter+1] + strconv.Itoa(c.Grade)
		}
		s, e := grades.Format(c)
		expect(t, "Format", results(s, e, grades.Check(c)), results(text, api.OK, api.OK))
		back, e := grades.Parse(s)
		expect(t, "Parse "+s, results(back, e), results(c, api.OK))
	}
	for c, error := range wrong() {
		s, e := grades.Format(c)
		expect(t, fmt.Sprintf("Format %+v", c), results(s, e, grades.Check(c)), results("", error, error))
	}
}

// P15.1

func TestParse(t *testing.T) {
	right := regexp.MustCompile(`^[defghjkmnpDEFGHJKMNP](0|[1-9][0-9]{0,2})$`)
	compare := func(s string) {
		class, error := grades.Class{}, api.ErrSyntax
		if right.MatchString(s) {
			letter := strings.IndexByte("defghjkmnpDEFGHJKMNP", s[0])
			class, error = grades.Class{Hole: letter >= 10, Letter: letter % 10}, api.OK
			class.Grade, _ = strconv.Atoi(s[1:])
			if class.Grade < 5 || class.Grade > 12 {
				class, error = grades.Class{}, api.ErrRange
			}
		}
		c, e := grades.Parse(s)
		expect(t, strconv.Quote(s), results(c, e), results(class, error))
	}
	compare("")
	for first := range 256 {
		for _, rest := range []string{"", "7", "07", "7 ", "12", "13", "x"} {
			compare(string([]byte{byte(first)}) + rest)
		}
	}
	for _, rest := range []string{"0", "00", "-0", "-7", "+7", "4", "5", "012", "99", "100", "999", "1000", "0007", "1e1", "0x7", "7.0", "1_0", "7\x00", "7\n", "٧", "-12", "18446744073709551623", strings.Repeat("9", 5000), "h7", "7h"} {
		compare("h" + rest)
		compare("H" + rest)
		compare(" H" + rest)
	}
	for _, s := range []string{"hh7", "K7", "\u212a7", "É7", "7h", "h 7"} {
		compare(s)
	}
}

func TestSteps(t *testing.T) {
	for step, l := range sizes {
		for _, size := range l {
			n, e := grades.Step(size)
			expect(t, fmt.Sprint("Step ", size), results(n, e), results(step, api.OK))
			for i, tolerance := range tolerances[step] {
				n, e := grades.Tolerance(size, 5+i)
				expect(t, fmt.Sprint("Tolerance ", size, 5+i), results(n, e), results(tolerance, api.OK))
			}
			for _, grade := range odd {
				n, e := grades.Tolerance(size, grade)
				expect(t, fmt.Sprint("Tolerance ", size, grade), results(n, e), results(0, api.ErrRange))
			}
		}
	}
	for _, size := range beyond {
		n, e := grades.Step(size)
		expect(t, fmt.Sprint("Step ", size), results(n, e), results(0, api.ErrRange))
		for _, grade := range []int{5, 12, 0, math.MaxInt} {
			n, e = grades.Tolerance(size, grade)
			expect(t, fmt.Sprint("Tolerance ", size, grade), results(n, e), results(0, api.ErrRange))
		}
	}
}

// P15.2 and P15.3: deviations and limits.

func TestDeviations(t *testing.T) {
	for step, l := range sizes {
		for _, size := range l {
			for _, c := range all() {
				what := fmt.Sprintf("%d %+v", size, c)
				deviations := model(step, c)
				d, e := grades.Deviations(size, c)
				expect(t, "Deviations "+what, results(d, e), results(deviations, api.OK))
				limits, error := api.Limits{Low: size + d.Low, High: size + d.High}, api.OK
				if limits.Low < 1 || limits.High > 100000 {
					limits, error = api.Limits{}, api.ErrRange
				}
				m, e := grades.Limits(size, c)
				expect(t, "Limits "+what, results(m, e), results(limits, error))
			}
		}
	}
	for c, error := range wrong() {
		d, e := grades.Deviations(25000, c)
		m, g := grades.Limits(25000, c)
		expect(t, fmt.Sprintf("wrong %+v", c), results(d, e, m, g), results(api.Limits{}, error, api.Limits{}, error))
	}
	for _, size := range beyond {
		for _, c := range []grades.Class{{Letter: 4, Grade: 7}, {Letter: 10, Grade: 7}} {
			d, e := grades.Deviations(size, c)
			m, g := grades.Limits(size, c)
			expect(t, fmt.Sprint("size ", size), results(d, e, m, g), results(api.Limits{}, api.ErrRange, api.Limits{}, api.ErrRange))
		}
	}
}

func TestEnds(t *testing.T) {
	for _, x := range []struct {
		size int
		text string
		l    api.Limits
		e    api.Errno
	}{
		{25000, "H7", api.Limits{Low: 25000, High: 25021}, api.OK},
		{25000, "g6", api.Limits{Low: 24980, High: 24993}, api.OK},
		{2000, "j5", api.Limits{Low: 1998, High: 2002}, api.OK},
		{90000, "p12", api.Limits{Low: 90048, High: 90400}, api.OK},
		{4, "h5", api.Limits{}, api.ErrRange},
		{5, "h5", api.Limits{Low: 1, High: 5}, api.OK},
		{1, "k5", api.Limits{Low: 2, High: 6}, api.OK},
		{99985, "H5", api.Limits{Low: 99985, High: 100000}, api.OK},
		{99986, "H5", api.Limits{}, api.ErrRange},
		{100000, "h12", api.Limits{Low: 99648, High: 100000}, api.OK},
	} {
		c, e := grades.Parse(x.text)
		l, g := grades.Limits(x.size, c)
		expect(t, fmt.Sprint(x.size, x.text), results(e, l, g), results(api.OK, x.l, x.e))
	}
}

// P15.2

func TestFind(t *testing.T) {
	for step, l := range sizes {
		size := l[len(l)-1]
		wanted := []api.Limits{{}, {Low: 2, High: 1}, {Low: math.MinInt, High: math.MaxInt}, {Low: math.MaxInt, High: math.MinInt}, {Low: -8, High: 1}}
		for _, c := range all() {
			wanted = append(wanted, model(step, c))
		}
		for _, w := range wanted {
			var found []grades.Class
			for _, c := range all() {
				if model(step, c) == w {
					found = append(found, c)
				}
			}
			f, e := grades.Find(size, w)
			expect(t, fmt.Sprint("Find ", size, w), results(f, e), results(found, api.OK))
		}
	}
	// for 5000: grade 5 has 6, and k shifts it by 1; j6 is from -4 to 4, for holes as for shafts
	f, e := grades.Find(5000, api.Limits{Low: -4, High: 4})
	expect(t, "both", results(f, e), results([]grades.Class{{Letter: 5, Grade: 6}, {Hole: true, Letter: 5, Grade: 6}}, api.OK))
	f[0].Grade = 9
	f, e = grades.Find(5000, api.Limits{Low: -4, High: 4})
	expect(t, "again", results(f[0], e), results(grades.Class{Letter: 5, Grade: 6}, api.OK))
	// limits below 1 are no limits, but the deviations are those of the class
	f, e = grades.Find(1, api.Limits{Low: -4, High: 0})
	expect(t, "small", results(f, e), results([]grades.Class{{Letter: 4, Grade: 5}}, api.OK))
	for _, size := range beyond {
		f, e := grades.Find(size, api.Limits{Low: -4, High: 0})
		expect(t, fmt.Sprint("size ", size), results(f, e), results([]grades.Class{}, api.ErrRange))
	}
}

func TestCoarsest(t *testing.T) {
	for step, l := range sizes {
		for _, size := range l {
			for _, width := range append([]int{-1, 0, 1000, math.MinInt, math.MaxInt}, around(tolerances[step])...) {
				grade, error := 0, api.ErrNone
				if at, _ := slices.BinarySearch(tolerances[step], max(0, min(width, 1000))+1); at > 0 {
					grade, error = 4+at, api.OK
				}
				g, e := grades.Coarsest(size, width)
				expect(t, fmt.Sprint("Coarsest ", size, width), results(g, e), results(grade, error))
			}
		}
	}
	for _, size := range beyond {
		g, e := grades.Coarsest(size, 100)
		expect(t, fmt.Sprint("size ", size), results(g, e), results(0, api.ErrRange))
	}
}

// around has some numbers with those before and behind them.
func around(l []int) []int {
	var wide []int
	for _, n := range l {
		wide = append(wide, n-1, n, n+1)
	}
	return wide
}

// P15.3

func TestConsequences(t *testing.T) {
	before := [13]int{}
	for size := 1; size <= api.MaxCoord; size += 7 {
		finer := 0
		for grade := 5; grade <= 12; grade++ {
			n, e := grades.Tolerance(size, grade)
			if e != api.OK || n <= finer || n < before[grade] {
				t.Fatalf("size %d, grade %d: %d, error %d", size, grade, n, e)
			}
			finer, before[grade] = n, n
			g, e := grades.Coarsest(size, n)
			expect(t, fmt.Sprint("Coarsest ", size, n), results(g, e), results(grade, api.OK))
		}
	}
	for _, l := range sizes {
		for _, c := range all() {
			widths(t, l[0], c)
		}
	}
}

// widths compares the limits and deviations of a class with its tolerance, and with those of the mirrored class.
func widths(t *testing.T, size int, c grades.Class) {
	t.Helper()
	what := fmt.Sprintf("%d %+v", size, c)
	tolerance, _ := grades.Tolerance(size, c.Grade)
	if c.Letter == 5 {
		tolerance -= tolerance % 2
	}
	d, e := grades.Deviations(size, c)
	expect(t, what, results(d.High-d.Low, e), results(tolerance, api.OK))
	if c.Letter == 4 && (c.Hole && d.Low != 0 || !c.Hole && d.High != 0) {
		t.Errorf("%s: %+v", what, d)
	}
	if l, e := grades.Limits(size, c); e == api.OK && l.High-l.Low != tolerance {
		t.Errorf("%s: %+v", what, l)
	}
	mirrored := c
	mirrored.Hole = !c.Hole
	m, _ := grades.Deviations(size, mirrored)
	expect(t, what, results(m), results(api.Limits{Low: -d.High, High: -d.Low}))
	f, e := grades.Find(size, d)
	if e != api.OK || !slices.Contains(f, c) {
		t.Errorf("%s: %+v", what, f)
	}
}
