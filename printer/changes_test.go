package printer_test

import (
	"fmt"
	"math/rand"
	"slices"
	"strings"
	"testing"

	"metrolab/api"
	"metrolab/drawing"
	"metrolab/printer"
)

// drawn returns the drawing with some lines.
func drawn(t *testing.T, l ...string) api.Drawing {
	t.Helper()
	d, n, e := drawing.Parse(text(l))
	if e != api.OK {
		t.Fatalf("%q: %d at %d", l, e, n)
	}
	return d
}

// flipped returns changes with their signs exchanged, those with "-" first.
func flipped(l []string) []string {
	var less, more []string
	for _, change := range l {
		if change[0] == '+' {
			less = append(less, "-"+change[1:])
		} else {
			more = append(more, "+"+change[1:])
		}
	}
	return slices.Concat(less, more)
}

// goes expects the changes from a drawing to another one to lead there, and back.
func goes(t *testing.T, a, b api.Drawing) []string {
	t.Helper()
	l, e := printer.Changes(a, b)
	there, n, g := printer.Apply(a, l)
	expect(t, fmt.Sprintf("Apply %q", l), results(e, there, n, g), results(api.OK, b, 0, api.OK))
	back, e := printer.Changes(b, a)
	expect(t, fmt.Sprintf("back %q", l), results(back, e), results(flipped(l), api.OK))
	return l
}

// P21.2

func TestChanges(t *testing.T) {
	moved := example()
	moved.Features[1].At.X = 505
	expect(t, "example 2", results(goes(t, example(), moved)), results([]string{"- feature H hole z at 500 0 0 size 90 95", "+ feature H hole z at 505 0 0 size 90 95"}))
	expect(t, "none", results(goes(t, plate(), plate())), results([]string{}))
	expect(t, "a name", results(goes(t, example(), changedName(example()))), results([]string{"- drawing D", "+ drawing E"}))
	expect(t, "all", results(goes(t, example(), api.Drawing{Name: "E"})), results([]string{"- drawing D", "- feature B plane x at 0 0 0", "- feature H hole z at 500 0 0 size 90 95", "- frame H position disc 20(M) B", "- dimension B H x 490 510", "+ drawing E"}))
	expect(t, "all back", results(goes(t, api.Drawing{Name: "D"}, example())), results([]string{"+ feature B plane x at 0 0 0", "+ feature H hole z at 500 0 0 size 90 95", "+ frame H position disc 20(M) B", "+ dimension B H x 490 510"}))
	// The frames of a feature that becomes one of another kind remain, and so do those of a feature between others that come and go.
	a := drawn(t, "drawing D", "feature B plane x at 0 0 0", "frame B position 1", "feature C ball x at 0 0 0 size 1 2", "frame C round 1")
	b := drawn(t, "drawing D", "feature A plane y at 0 0 0", "frame A position 1", "feature B slot x at 0 0 0 size 1 2", "frame B position 1")
	expect(t, "another kind", results(goes(t, a, b)), results([]string{"- feature B plane x at 0 0 0", "- feature C ball x at 0 0 0 size 1 2", "- frame C round 1", "+ feature A plane y at 0 0 0", "+ frame A position 1", "+ feature B slot x at 0 0 0 size 1 2"}))
	// Dimensions that differ in their limits alone.
	a = drawn(t, "drawing D", "feature A plane x at 0 0 0", "feature B plane x at 9 0 0", "dimension A B x 8 9", "dimension A B x 9 10")
	b = drawn(t, "drawing D", "feature A plane x at 0 0 0", "feature B plane x at 9 0 0", "dimension A B x 8 10", "dimension A B x 9 10", "dimension B A x -9 -8")
	expect(t, "dimensions", results(goes(t, a, b)), results([]string{"- dimension A B x 8 9", "+ dimension A B x 8 10", "+ dimension B A x -9 -8"}))
}

func changedName(d api.Drawing) api.Drawing {
	d.Name = "E"
	return d
}

// P21.2: frames remain only if they are the first ones of both features, in one order.
func TestFrames(t *testing.T) {
	texts := map[rune]string{'s': "straight 1", 'r': "round 1", 'R': "round 2", 'p': "position 1", 'P': "position disc 1", 'q': "square 1 A", 'u': "runout 1 A"}
	pin := func(frames string) api.Drawing {
		l := []string{"drawing D", "feature A plane x at 0 0 0", "frame A flat 1", "feature B pin x at 0 0 0 size 1 2", "feature C pin x at 0 0 0 size 1 2", "frame C round 1", "frame C position 1"}
		for _, c := range frames {
			l = append(l, "frame B "+texts[c])
		}
		return drawn(t, l...)
	}
	for _, x := range []struct{ a, b, less, more string }{
		{"", "", "", ""}, {"", "sr", "", "sr"}, {"srp", "", "srp", ""}, {"srp", "srp", "", ""},
		{"sr", "srp", "", "p"}, {"srp", "s", "rp", ""}, {"srp", "sru", "p", "u"}, {"sRp", "sr", "Rp", "r"}, {"sr", "pq", "sr", "pq"}, {"r", "R", "r", "R"}, {"spR", "spr", "R", "r"},
		{"sr", "rs", "sr", "rs"}, {"srp", "sr", "p", ""}, {"srp", "sp", "srp", "sp"}, {"srp", "rp", "srp", "rp"}, {"sr", "psr", "sr", "psr"}, {"sr", "spr", "sr", "spr"}, {"srp", "sRp", "srp", "sRp"}, {"rsp", "Rsp", "rsp", "Rsp"}, {"srpq", "srqp", "srpq", "srqp"}, {"sr", "us", "sr", "us"}, {"rs", "su", "rs", "su"}, {"ps", "Ps", "ps", "Ps"},
	} {
		var want []string
		for _, c := range x.less {
			want = append(want, "- frame B "+texts[c])
		}
		for _, c := range x.more {
			want = append(want, "+ frame B "+texts[c])
		}
		expect(t, x.a+" to "+x.b, results(goes(t, pin(x.a), pin(x.b))), results(want))
	}
}

// P21.2: changes that cannot be applied.
func TestApplyErrors(t *testing.T) {
	repeated := func(n int, l ...string) []string { return slices.Repeat(l, n) }
	for _, x := range []struct {
		l []string
		n int
		e api.Errno
	}{
		{repeated(4097, "x"), 0, api.ErrMany}, {repeated(5000, "- frame A flat 5"), 0, api.ErrMany}, {repeated(4096, "x"), 0, api.ErrSyntax}, {repeated(4096, "+ drawing E"), 4096, api.ErrSyntax}, {repeated(4096, "+ drawing 1"), 4096, api.ErrForm}, {repeated(4096, "+ dimension A A x 0 0"), 4096, api.ErrLong}, {repeated(4096, "+ frame A fl"), 4096, api.ErrSyntax},
		{[]string{""}, 0, api.ErrSyntax}, {[]string{"-"}, 0, api.ErrSyntax}, {[]string{"+"}, 0, api.ErrSyntax}, {[]string{" - frame A flat 5"}, 0, api.ErrSyntax}, {[]string{"-frame A flat 5"}, 0, api.ErrSyntax}, {[]string{"+dimension A W z -16 2"}, 0, api.ErrSyntax}, {[]string{"* frame A flat 5"}, 0, api.ErrSyntax}, {[]string{"-\tframe A flat 5"}, 0, api.ErrSyntax}, {[]string{"frame A flat 5"}, 0, api.ErrSyntax},
		{[]string{"- "}, 0, api.ErrNone}, {[]string{"- x"}, 0, api.ErrNone}, {[]string{"- frame A flat 5 "}, 0, api.ErrNone}, {[]string{"-  frame A flat 5"}, 0, api.ErrNone}, {[]string{"- frame A  flat 5"}, 0, api.ErrNone}, {[]string{"- frame A flat 5\n"}, 0, api.ErrNone}, {[]string{"- frame A flat 6"}, 0, api.ErrNone}, {[]string{"- frame A"}, 0, api.ErrNone}, {[]string{"- drawing Plate"}, 0, api.ErrNone},
		{[]string{"- frame A flat 5", "- frame A flat 5"}, 1, api.ErrNone}, {[]string{"- frame A flat 5", "+ frame A flat 5", "- frame A flat 5"}, 2, api.ErrNone}, {[]string{"+ frame A flat 6", "- frame A flat 6"}, 1, api.ErrNone}, {[]string{"- drawing Plate2", "- drawing Plate2", "x"}, 1, api.ErrNone},
		{[]string{"+ "}, 0, api.ErrSyntax}, {[]string{"+ drawing"}, 0, api.ErrSyntax}, {[]string{"+ feature"}, 0, api.ErrSyntax}, {[]string{"+ dimension"}, 0, api.ErrSyntax}, {[]string{"+ frame"}, 0, api.ErrSyntax}, {[]string{"+ frame "}, 0, api.ErrSyntax}, {[]string{"+ frame A"}, 0, api.ErrSyntax}, {[]string{"+ frame  A round 1"}, 0, api.ErrSyntax}, {[]string{"+ frame  "}, 0, api.ErrSyntax}, {[]string{"+  frame A round 1"}, 0, api.ErrSyntax}, {[]string{"+ features A"}, 0, api.ErrSyntax}, {[]string{"+ Feature A"}, 0, api.ErrSyntax}, {[]string{"+ # frame A round 1"}, 0, api.ErrSyntax}, {[]string{"+ #"}, 0, api.ErrSyntax}, {[]string{"+ drawing\tX"}, 0, api.ErrSyntax},
		{[]string{"+ dimension A W z -16 2\n"}, 0, api.ErrSyntax}, {[]string{"+ dimension A W z -16 2\n#"}, 0, api.ErrSyntax}, {[]string{"+ drawing \n"}, 0, api.ErrSyntax}, {[]string{"+ frame A\n "}, 0, api.ErrSyntax}, {[]string{"+ feature \n"}, 0, api.ErrSyntax}, {[]string{"- frame A flat 5", "+ frame A\nflat 6 A", "x"}, 1, api.ErrSyntax},
		// What is read then.
		{[]string{"+ drawing "}, 1, api.ErrSyntax}, {[]string{"+ feature "}, 1, api.ErrSyntax}, {[]string{"+ dimension "}, 1, api.ErrSyntax}, {[]string{"+ frame A "}, 1, api.ErrSyntax}, {[]string{"+ frame A flat"}, 1, api.ErrSyntax}, {[]string{"+ drawing Plate3"}, 1, api.ErrSyntax}, {[]string{"+ drawing 3"}, 1, api.ErrForm}, {[]string{"- drawing Plate2"}, 1, api.ErrSyntax}, {[]string{"- drawing Plate2", "+ drawing E", "+ drawing E"}, 3, api.ErrSyntax}, {[]string{"- drawing Plate2", "+ drawing " + strings.Repeat("E", 25)}, 2, api.ErrLong},
		{[]string{"+ feature A plane x at 0 0 0"}, 1, api.ErrTwice}, {[]string{"+ dimension A W z -16 0"}, 1, api.ErrTwice}, {[]string{"+ frame A flat 4"}, 1, api.ErrTwice}, {[]string{"+ frame X flat 4"}, 1, api.ErrNone}, {[]string{"- feature P pin x at 3 2 1 size 7 7"}, 1, api.ErrNone}, {[]string{"- frame P runout 6 A", "- feature P pin x at 3 2 1 size 7 7"}, 2, api.ErrNone}, {[]string{"+ feature X plane x at 0 0 100001"}, 1, api.ErrRange}, {[]string{"+ frame W straight 1"}, 1, api.ErrState}, {[]string{"+ frame S position 1 W(M)"}, 1, api.ErrConflict}, {[]string{"+ dimension A W y 0 0"}, 1, api.ErrState}, {[]string{"+ dimension A W z 0 1"}, 1, api.ErrConflict},
		// The line of a drawing that is added comes first, what else is added behind what was left of its kind.
		{[]string{"+ drawing 1", "x"}, 1, api.ErrSyntax}, {[]string{"+ drawing 1", "+ frame A flat 5"}, 2, api.ErrForm}, {[]string{"+ frame A flat 6", "+ feature A"}, 2, api.ErrSyntax}, {[]string{"+ frame A flat 5", "+ feature A plane x at 0 0"}, 2, api.ErrSyntax}, {[]string{"+ dimension A A z 0 0", "+ frame Z flat 1"}, 2, api.ErrNone}, {[]string{"+ dimension A W z -16 0", "+ feature A ball y at 0 0 0 size 1 2"}, 2, api.ErrForm},
	} {
		d, n, e := printer.Apply(plate(), x.l)
		expect(t, fmt.Sprintf("Apply %.3q", x.l[:min(3, len(x.l))]), results(d, n, e), results(none, x.n, x.e))
	}
}

// P21.2: changes of any order, with blanks as in texts.
func TestApply(t *testing.T) {
	frames := func(l ...string) api.Drawing {
		return changed(func(d *api.Drawing) {
			d.Features[1].Frames = nil
			for _, s := range l {
				d.Features[1].Frames = append(d.Features[1].Frames, fits(s))
			}
		})
	}
	position, round, straight := "position disc 0(M) A S(L)", "round 1", "straight disc 3(L)"
	for _, x := range []struct {
		l    []string
		want api.Drawing
	}{
		{nil, plate()},
		{[]string{"- drawing Plate2", "+ drawing E"}, changed(func(d *api.Drawing) { d.Name = "E" })},
		{[]string{"+ drawing    E  ", "- drawing Plate2"}, changed(func(d *api.Drawing) { d.Name = "E" })},
		{[]string{"+ frame Hole runout   2  A", "- frame Hole round 1"}, frames(position, straight, "runout 2 A")},
		{[]string{"- frame Hole round 1", "+ frame Hole round 1"}, frames(position, straight, round)},
		{[]string{"+ frame Hole round 1", "- frame Hole position disc 0(M) A S(L)", "+ frame Hole position disc 0(M) A S(L)", "- frame Hole round 1"}, frames(straight, round, position)},
		{[]string{"- frame Hole straight disc 3(L)", "+ frame Hole runout 2 A", "+ frame A1 flat 2", "+ frame Hole straight disc 3(L)", "+ feature A1  plane x at 1 1 1"}, func() api.Drawing {
			d := frames(position, round, "runout 2 A", straight)
			d.Features = slices.Insert(d.Features, 1, of("A1", 0, 0, 1, 1, 1, 0, 0, fits("flat 2")))
			return d
		}()},
		{[]string{"+ dimension P A1 y -3 -1", "+ feature A1 plane y at 0 0 0", "- dimension P W y -2 -1"}, changed(func(d *api.Drawing) {
			d.Features = slices.Insert(d.Features, 1, of("A1", 0, 1, 0, 0, 0, 0, 0))
			d.Dimensions[4] = between("P", "A1", 1, -3, -1)
		})},
		{[]string{"- feature P pin x at 3 2 1 size 7 7", "- frame P runout 6 A", "- dimension P W y -2 -1", "- frame W position disc 9 A P(M) S"}, changed(func(d *api.Drawing) {
			d.Features = slices.Delete(d.Features, 2, 3)
			d.Features[3].Frames = d.Features[3].Frames[:1]
			d.Dimensions = d.Dimensions[:4]
		})},
	} {
		d, n, e := printer.Apply(plate(), x.l)
		expect(t, fmt.Sprintf("Apply %q", x.l), results(d, n, e), results(x.want, 0, api.OK))
	}
}

// remaining returns the lines of a drawing that are no changes to another one, straight by the definition.
func remaining(a, b api.Drawing) []string {
	la, _ := printer.Lines(a)
	lb, _ := printer.Lines(b)
	framesOf := func(l []string, name string) []string {
		return slices.DeleteFunc(slices.Clone(l), func(line string) bool { return !strings.HasPrefix(line, "frame "+name+" ") })
	}
	var l []string
	for _, line := range la {
		if !slices.Contains(lb, line) {
			continue
		}
		if words := strings.Split(line, " "); words[0] == "frame" {
			fa, fb := framesOf(la, words[1]), framesOf(lb, words[1])
			both := slices.DeleteFunc(slices.Clone(fa), func(line string) bool { return !slices.Contains(fb, line) })
			if !slices.Equal(both, fa[:len(both)]) || !slices.Equal(both, fb[:len(both)]) {
				continue
			}
		}
		l = append(l, line)
	}
	return l
}

// P21.2 and P21.3: changes lead from any drawing to any other one, and back.
func TestThereAndBack(t *testing.T) {
	random := rand.New(rand.NewSource(22))
	kept := 0
	for i := range 2000 {
		a, b := some(random), some(random)
		if i%2 == 0 {
			b = near(random, a)
		}
		left := remaining(a, b)
		var want []string
		for sign, d := range map[string]api.Drawing{"- ": a, "+ ": b} {
			l, _ := printer.Lines(d)
			for _, line := range l {
				if !slices.Contains(left, line) {
					want = append(want, sign+line)
				}
			}
		}
		slices.SortStableFunc(want, func(s, t string) int { return int(t[0]) - int(s[0]) })
		expect(t, "Changes", results(goes(t, a, b)), results(want))
		if len(left) > 1 && len(want) > 0 {
			kept++
		}
		none := goes(t, a, a)
		expect(t, "no changes", results(none), results([]string{}))
	}
	if kept < 200 {
		t.Errorf("only %d drawings with lines that remain", kept)
	}
}
