package drawing_test

import (
	"fmt"
	"math/rand"
	"slices"
	"strconv"
	"strings"
	"testing"

	"metrolab/api"
	"metrolab/drawing"
)

// parsed expects a drawing from a text.
func parsed(t *testing.T, text string, want api.Drawing) {
	t.Helper()
	d, n, e := drawing.Parse(text)
	expect(t, fmt.Sprintf("Parse %q", text), results(d, n, e), results(want, 0, api.OK))
}

// refused expects an error at a line of a text.
func refused(t *testing.T, text string, line int, want api.Errno) {
	t.Helper()
	d, n, e := drawing.Parse(text)
	expect(t, fmt.Sprintf("Parse %q", text), results(d, n, e), results(none, line, want))
}

// lines are those of the plate, in its order; the first one is that of the drawing.
var lines = []string{
	"drawing Plate",
	"feature A plane x at 0 0 0",
	"feature B plane x at 100 0 0",
	"feature H hole z at 500 0 0 size 90 95",
	"feature Q ball x at -99999 0 0 size 90 95",
	"feature S slot x at 400 0 0 size 90 95",
	"frame A flat 5",
	"frame B parallel 8 A",
	"frame B flat 3",
	"frame H position disc 20(M) B A",
	"frame H round 2",
	"frame S position 20 B H(M)",
	"dimension A B x 95 105",
	"dimension A H x 500 510",
	"dimension A H x 500 511",
	"dimension B A x -100 -100",
	"dimension H Q y 0 0",
	"dimension S H x 0 100",
}

func joined(l []string) string { return strings.Join(l, "\n") }

// P20.2

func TestParse(t *testing.T) {
	text := joined(lines)
	for _, s := range []string{
		text, text + "\n", text + "\n\n\n", "\n" + text, "   \n#\n# drawing X\n  #frame\n" + text + "\n# dimension\n   ",
		strings.ReplaceAll(text, " ", "   "), strings.ReplaceAll(text, "\n", "  \n  "), "  " + text + "   ", strings.ReplaceAll(text, "\n", "\n#x y\n \n"),
	} {
		parsed(t, s, plate())
	}
	for _, x := range []struct {
		text string
		want api.Drawing
	}{
		{"drawing D", api.Drawing{Name: "D"}},
		{"drawing drawing\n", api.Drawing{Name: "drawing"}},
		{"drawing D\nfeature feature pin y at 1 -2 100000 size 1 100000", api.Drawing{Name: "D", Features: []api.Feature{{Name: "feature", Kind: api.KindPin, Axis: 1, At: api.Spot{X: 1, Y: -2, Z: 100000}, Size: api.Limits{Low: 1, High: 100000}}}}},
		{"drawing D\nfeature F plane z at -100000 0 -1\nframe  F  profile   0(M)", none},
		{"drawing D\nfeature F slot z at 0 0 0 size 7 7\n frame  F  square   0(M)   G(L)  F1 \nfeature G ball x at 0 0 0 size 1 2\nfeature F1 plane y at 0 0 0", api.Drawing{Name: "D", Features: []api.Feature{
			{Name: "F", Kind: api.KindSlot, Axis: 2, Size: api.Limits{Low: 7, High: 7}, Frames: []api.Frame{{Kind: api.Square, Material: api.Maximum, Datums: []api.Datum{{Name: "G", Material: api.Least}, {Name: "F1"}}}}},
			{Name: "F1", Axis: 1}, {Name: "G", Kind: api.KindBall, Size: api.Limits{Low: 1, High: 2}},
		}}},
	} {
		if x.want.Name == "" {
			refused(t, x.text, 2, api.ErrForm)
			continue
		}
		parsed(t, x.text, x.want)
	}
}

// P20.2: what is no line, in a text that is right but for it.
func TestSyntax(t *testing.T) {
	for _, line := range []string{
		"drawing", "drawing D", "x", "Feature C plane x at 0 0 0", "feature", "frame", "dimension", "features C plane x at 0 0 0", "feature\tC plane x at 0 0 0", "feature C plane x at 0 0 0\r", "\tfeature C plane x at 0 0 0", "feature C plane x at 0 0 0 # here", "D", "é",
		"feature C", "feature C plane", "feature C plane x", "feature C plane x at", "feature C plane x at 0", "feature C plane x at 0 0", "feature C plane x at 0 0 0 0", "feature C plane x 0 0 0", "feature C plane x At 0 0 0", "feature C x plane at 0 0 0", "feature C plane x at 0 0 0 size", "feature C plane x at 0 0 0 size 1 2", "feature C plane x at 0 0 0 size 0 0",
		"feature C cube x at 0 0 0", "feature C Plane x at 0 0 0", "feature C plane w at 0 0 0", "feature C plane X at 0 0 0", "feature C plane xy at 0 0 0", "feature C 0 0 at 0 0 0", "feature C planes x at 0 0 0", "feature C kind x at 0 0 0 size 1 2",
		"feature C hole x at 0 0 0", "feature C hole x at 0 0 0 size", "feature C hole x at 0 0 0 size 1", "feature C pin x at 0 0 0 size 1 2 3", "feature C slot x at 0 0 0 1 2", "feature C ball x at 0 0 0 Size 1 2", "feature C ball at 0 0 0 size 1 2",
		"feature C plane x at 00 0 0", "feature C plane x at 0 01 0", "feature C plane x at 0 0 -0", "feature C plane x at +1 0 0", "feature C plane x at 1.0 0 0", "feature C plane x at 1_0 0 0", "feature C plane x at 0x1 0 0", "feature C plane x at 1e1 0 0", "feature C plane x at --1 0 0", "feature C plane x at - 1 0", "feature C plane x at -01 0 0", "feature C plane x at a 0 0", "feature C plane x at １ 0 0",
		"feature C plane x at 1000000 0 0", "feature C plane x at 0 -1000000 0", "feature C plane x at 0 0 0000001", "feature C plane x at 0 0 9223372036854775807", "feature C plane x at 0 0 -9223372036854775808", "feature C plane x at 0 0 99999999999999999999", "feature C plane x at 0 0 18446744073709551616", "feature C hole x at 0 0 0 size -9223372036854775808 2", "feature C hole x at 0 0 0 size 1 1000000", "feature C hole x at 0 0 0 size 01 2",
		"feature C plane x at 999999 0 00", "feature C plane w at 999999 0 0", "feature C plane x at 999999 0 0 0", "feature C plane x at 999999 0", "feature C plane x at 0 999999 1000000", "feature 1 plane x at 0 0", "feature A plane x at 0 0",
		"frame Q", "frame Q position", "frame Q position 5 B B", "frame Q Position 5", "frame Q position 05", "frame Q position 5 (M)", "frame Q position 5 1", "frame Q position -5", "frame Q position 100001", "frame Q position 5 A B H S", "frame position 5", "frame X position", "frame Q # 5", "frame Q " + strings.Repeat("x", 5000),
		"dimension S H x 1", "dimension S H x", "dimension S H", "dimension S", "dimension S H x 1 2 3", "dimension S x 1 2", "dimension S H X 1 2", "dimension S H 0 1 2", "dimension S H x 1 02", "dimension S H x 1 1000000", "dimension S H x 100001 1.5", "dimension S S x 2 1 0", "dimension S H x -0 100",
	} {
		for _, i := range []int{6, 12, len(lines)} {
			refused(t, joined(slices.Insert(slices.Clone(lines), i, line)), i, api.ErrSyntax)
		}
		if line != "drawing D" {
			refused(t, "\n# x\n"+line+"\ndrawing D", 2, api.ErrSyntax)
		}
	}
	for _, line := range lines[1:] {
		refused(t, line+"\ndrawing D", 0, api.ErrSyntax)
	}
}

// P20.2: lines with other errors, at any place behind the features.
func TestLines(t *testing.T) {
	long := strings.Repeat("x", 25)
	for _, x := range []struct {
		line string
		e    api.Errno
	}{
		{"feature C plane x at 100001 0 0", api.ErrRange}, {"feature C plane x at 0 -100001 0", api.ErrRange}, {"feature C plane x at 0 0 999999", api.ErrRange}, {"feature C hole x at 0 0 0 size 1 100001", api.ErrRange}, {"feature C hole x at 0 0 0 size -999999 2", api.ErrRange}, {"feature 1 plane x at 100001 0 0", api.ErrRange}, {"feature A ball y at 100001 0 0 size 2 1", api.ErrRange},
		{"feature 1 plane x at 0 0 0", api.ErrForm}, {"feature # plane x at 0 0 0", api.ErrForm}, {"feature " + long + " plane x at 0 0 0", api.ErrLong}, {"feature A-B pin x at 0 0 0 size 2 1", api.ErrForm}, {"feature A ball y at 0 0 0 size 1 1", api.ErrForm}, {"feature C ball z at 0 0 0 size 2 1", api.ErrForm}, {"feature C pin x at 0 0 0 size 2 1", api.ErrOrder}, {"feature C pin x at 0 0 0 size 0 1", api.ErrRange}, {"feature A pin x at 0 0 0 size -1 1", api.ErrRange},
		{"feature A pin x at 0 0 0 size 1 2", api.ErrTwice}, {"feature A plane x at 0 0 0", api.ErrTwice}, {"feature S plane y at 0 0 0", api.ErrTwice},
		{"frame X position 5", api.ErrNone}, {"frame a round 0", api.ErrNone}, {"frame 1 round 0", api.ErrNone}, {"frame position position 5 position", api.ErrNone},
		{"frame Q flat 5", api.ErrState}, {"frame A position disc 5", api.ErrForm}, {"frame Q position 0", api.ErrZero}, {"frame Q round 5(M)", api.ErrForm}, {"frame H square 5", api.ErrEmpty}, {"frame H runout 5 A B", api.ErrMany}, {"frame Q position 5 Q", api.ErrTwice}, {"frame H position 0", api.ErrZero}, {"frame H position 5 H", api.ErrTwice},
		{"frame H position 5", api.ErrTwice}, {"frame B flat 3", api.ErrTwice}, {"frame A flat 4", api.ErrTwice},
		{"dimension A A x 100001 0", api.ErrRange}, {"dimension 1 A x 0 -100001", api.ErrRange}, {"dimension 1 A x 0 0", api.ErrForm}, {"dimension A " + long + " x 0 0", api.ErrLong}, {"dimension A A x 1 0", api.ErrTwice}, {"dimension A B x 1 0", api.ErrOrder},
		{"dimension A B x 95 105", api.ErrTwice}, {"dimension S H x 0 100", api.ErrTwice}, {"dimension A H x 500 511", api.ErrTwice},
	} {
		refused(t, joined(append(slices.Clone(lines), x.line)), len(lines), x.e)
		refused(t, joined(append(slices.Clone(lines), "", x.line, "x", "")), len(lines)+1, x.e)
		if x.e != api.ErrTwice {
			refused(t, joined(slices.Insert(slices.Clone(lines), 6, x.line)), 6, x.e)
		}
	}
	for _, x := range []struct {
		line string
		e    api.Errno
	}{{"drawing 1", api.ErrForm}, {"drawing #", api.ErrForm}, {"drawing A-B", api.ErrForm}, {"drawing " + long, api.ErrLong}, {"drawing é", api.ErrForm}, {"drawing A B", api.ErrSyntax}, {"drawing 1 2", api.ErrSyntax}, {"drawing", api.ErrSyntax}} {
		refused(t, "# x\n\n"+x.line+"\nx", 2, x.e)
	}
}

// P20.2: errors of the whole are at the number of lines.
func TestWhole(t *testing.T) {
	for _, x := range []struct {
		text string
		n    int
		e    api.Errno
	}{
		{"", 0, api.ErrEmpty}, {" ", 1, api.ErrEmpty}, {"\n", 1, api.ErrEmpty}, {"\n\n", 2, api.ErrEmpty}, {"\n ", 2, api.ErrEmpty}, {"#", 1, api.ErrEmpty}, {"# x\n#drawing D\n", 2, api.ErrEmpty}, {"# x\n\n#", 3, api.ErrEmpty},
		{"drawing D\ndimension A B x 0 0", 2, api.ErrNone}, {"drawing D\ndimension A B x 0 0\n", 2, api.ErrNone}, {"drawing D\ndimension A B x 0 0\n\n", 3, api.ErrNone}, {"drawing D\ndimension A B x 0 0\n ", 3, api.ErrNone},
		{"drawing D\nfeature A plane x at 0 0 0\nframe A profile 1 B", 3, api.ErrNone},
		{"drawing D\nfeature A plane x at 0 0 0\nfeature B plane x at 0 0 0\nframe A profile 1 B(M)", 4, api.ErrForm},
		{"drawing D\nfeature A plane x at 0 0 0\nfeature B plane x at 0 0 0\nframe A profile 1 B\nframe B profile 1 A\n", 5, api.ErrConflict},
		{"drawing D\nfeature A plane x at 0 0 0\nfeature B plane x at 10 0 0\ndimension A B x 9 9\n", 4, api.ErrConflict},
		{"drawing D\nfeature A plane x at 0 0 0\nfeature B plane x at 10 0 0\ndimension A B y 0 0\n", 4, api.ErrState},
	} {
		refused(t, x.text, x.n, x.e)
	}
}

// P20.2: texts of drawings with as much as is permitted, and with more.
func TestMost(t *testing.T) {
	features, dimensions := "drawing D\n", "drawing D\nfeature A plane x at 0 0 0\nfeature B plane x at 0 0 0\n"
	for i := range 300 {
		features += "feature F" + strconv.Itoa(i) + " plane x at 0 0 0\n"
		dimensions += "dimension A B x " + strconv.Itoa(-i) + " 0\n"
		_, n, e := drawing.Parse(features)
		_, m, g := drawing.Parse(dimensions)
		want := results(0, api.OK, 0, api.OK)
		if i >= 32 {
			want[0], want[1] = i+2, api.ErrMany
		}
		if i >= 256 {
			want[2], want[3] = i+4, api.ErrMany
		}
		expect(t, fmt.Sprint("Parse ", i), results(n, e, m, g), want)
	}
	text := "drawing D\n" + strings.Repeat("#", drawing.MaxDrawing-10)
	parsed(t, text, api.Drawing{Name: "D"})
	refused(t, text+"#", 0, api.ErrLong)
	refused(t, strings.Repeat("\n", drawing.MaxDrawing), drawing.MaxDrawing, api.ErrEmpty)
	refused(t, strings.Repeat("\n", drawing.MaxDrawing+1), 0, api.ErrLong)
	expect(t, "MaxDrawing", results(drawing.MaxDrawing), results(65536))
}

// P20.2: the examples of the chapter.
func TestExamples(t *testing.T) {
	l := []string{"drawing D", "feature B plane x at 0 0 0", "feature H hole z at 500 0 0 size 90 95", "frame H position disc 20(M) B", "dimension B H x 490 510"}
	d, n, e := drawing.Parse(joined(l))
	names, g := drawing.Datums(d)
	depends, h := drawing.Depends(d, "H")
	far, k := drawing.Nominal(d, "B", "H", 0)
	expect(t, "example 1", results(n, e, names, g, depends, h, far, k), results(0, api.OK, []string{"B"}, api.OK, []string{"B"}, api.OK, 500, api.OK))
	refused(t, joined(append(l[:4:4], "dimension B H x 501 510")), 5, api.ErrConflict)
	refused(t, joined(append(l[:4:4], "dimension B H y 0 0")), 5, api.ErrState)
	refused(t, joined(append(l[:1:1], l[2:]...)), 4, api.ErrNone)
	refused(t, joined(append(l[:1:1], "feature B plane x at 0 0")), 1, api.ErrSyntax)
	_, e = drawing.Remove(d, "B")
	expect(t, "example 3", results(e), results(api.ErrState))
	d.Features[1].Frames, d.Dimensions = nil, nil
	d, e = drawing.Remove(d, "B")
	expect(t, "example 3", results(len(d.Features), e), results(1, api.OK))
}

// P20.3: lines of features, and lines of dimensions, may be exchanged; and so may lines of frames of different features.
func TestExchange(t *testing.T) {
	random := rand.New(rand.NewSource(20))
	for range 200 {
		l := slices.Clone(lines)
		shuffle := func(l []string) { random.Shuffle(len(l), func(i, j int) { l[i], l[j] = l[j], l[i] }) }
		shuffle(l[1:6])
		shuffle(l[12:])
		for i := 6; i < 11; i++ {
			if l[i][6] != l[i+1][6] && random.Intn(2) == 0 {
				l[i], l[i+1] = l[i+1], l[i]
			}
		}
		// Dimensions may also come first.
		first := l[12+random.Intn(6)]
		l = slices.Insert(slices.DeleteFunc(l, func(line string) bool { return line == first }), 1+random.Intn(11), first)
		parsed(t, joined(l), plate())
	}
	l := slices.Clone(lines)
	l[7], l[8] = l[8], l[7]
	parsed(t, joined(l), changed(func(d *api.Drawing) { slices.Reverse(d.Features[1].Frames) }))
}

// P20.2: results share no memory.
func TestParseMemory(t *testing.T) {
	one, _, _ := drawing.Parse(joined(lines))
	two, _, _ := drawing.Parse(joined(lines))
	spoil(one)
	expect(t, "two", results(two), results(plate()))
}
