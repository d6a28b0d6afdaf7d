package frame_test

import (
	"fmt"
	"math/rand"
	"strings"
	"testing"

	"metrolab/api"
	"metrolab/frame"
)

// P19.2

func TestText(t *testing.T) {
	long := strings.Repeat("x", 24)
	for _, x := range []struct {
		text string
		x    api.Frame
	}{
		{"straight 0", none},
		{"flat 30", at(api.Flat, 30)},
		{"flat disc 30", round(at(api.Flat, 30))},
		{"flat 30(M)", with(at(api.Flat, 30), api.Maximum)},
		{"parallel 100000(L) F", with(at(api.Parallel, 100000, "F"), api.Least)},
		{"square 20", at(api.Square, 20)},
		{"square 7 disc flat", at(api.Square, 7, "disc", "flat")},
		{"round 1 A B C", at(api.Round, 1, "A", "B", "C")},
		{"sphere 9", at(api.Sphere, 9)},
		{"profile 10 c b a", at(api.Profile, 10, "c", "b", "a")},
		{"runout 20 A B", at(api.Runout, 20, "A", "B")},
		{"position 0", at(api.Position, 0)},
		{"position disc 50(M) A B(M)", api.Frame{Kind: api.Position, Disc: true, Tol: 50, Material: api.Maximum, Datums: []api.Datum{{Name: "A"}, {Name: "B", Material: api.Maximum}}}},
		{"position disc 0(L) M(M) L(L) " + long, api.Frame{Kind: api.Position, Disc: true, Material: api.Least, Datums: []api.Datum{{Name: "M", Material: api.Maximum}, {Name: "L", Material: api.Least}, {Name: long}}}},
	} {
		text, e := frame.Text(x.x)
		expect(t, fmt.Sprintf("Text %+v", x.x), results(text, e), results(x.text, api.OK))
		back, e := frame.Parse(x.text)
		expect(t, "Parse "+x.text, results(back, e), results(x.x, api.OK))
	}
	for _, x := range textless {
		text, e := frame.Text(x.x)
		expect(t, fmt.Sprintf("Text %+v", x.x), results(text, e), results("", x.e))
	}
}

// P19.2: what is no text of a frame.
func TestSyntax(t *testing.T) {
	for _, s := range []string{
		"", " ", "flat", "flat ", "disc", "disc 30", "30", "Flat 30", "flatt 30", "fla 30", "0 30", "flat(M) 30", "flat\t30", "flat 30\n", "flat 30\x00", "\xffflat 30",
		" flat 30", "flat 30 ", "flat  30", "flat 30  A", "flat disc", "flat disc ", "flat disc disc 30", "flat 30 disc(X)", "flat disc(M) 30", "Disc 30", "flat Disc 30", "flat  disc 30",
		"flat 030", "flat 00", "flat -0", "flat +30", "flat -30", "flat 3_0", "flat 0x1e", "flat 3.0", "flat 3e1", "flat 100001", "flat 99999999999999999999", "flat -99999999999999999999", "flat 30mm", "flat A", "flat A 30", "flat ３",
		"flat 30(X)", "flat 30(m)", "flat 30(M", "flat 30M", "flat 30 (M)", "flat 30(M)(M)", "flat 30(M)(L)", "flat (M)", "flat (M)30", "flat 30()", "flat 30(",
		"flat 30 A A", "flat 30 A A(M)", "flat 30 A(M) B A", "flat 30 A B C D", "flat 30 1A", "flat 30 A-B", "flat 30 (M)", "flat 30 A(M)(M)", "flat 30 A (M)", "flat 30 A(X)", "flat 30 A,B", "flat 30 é", "flat 30 " + strings.Repeat("x", 25),
		"flat 30" + strings.Repeat(" ", 4089), "position " + strings.Repeat("0", 4087), strings.Repeat("x", 4096), strings.Repeat(" ", 4096),
	} {
		x, e := frame.Parse(s)
		expect(t, fmt.Sprintf("Parse %q", s), results(x, e), results(none, api.ErrSyntax))
	}
	for _, s := range []string{"flat 30" + strings.Repeat(" ", 4090), strings.Repeat("x", 4097), strings.Repeat("\n", 1<<20)} {
		x, e := frame.Parse(s)
		expect(t, "Parse a long text", results(x, e), results(none, api.ErrLong))
	}
}

// P19.3: texts of all frames are read back.
func TestBack(t *testing.T) {
	for _, x := range all() {
		text, e := frame.Text(x)
		back, g := frame.Parse(text)
		expect(t, text, results(e, back, g, frame.Same(back, x)), results(api.OK, x, api.OK, true))
	}
}

// P19.3: what is read from any text has this text.
func TestForth(t *testing.T) {
	random := rand.New(rand.NewSource(19))
	pieces := []string{"flat", "position", " ", " ", " ", "disc", "30", "0", "1", "-", "(M)", "(L)", "A", "B", "(", "x", "9"}
	read := 0
	for range 300000 {
		var text strings.Builder
		text.WriteString("flat 5")
		for range random.Intn(7) {
			text.WriteString(pieces[random.Intn(len(pieces))])
		}
		x, e := frame.Parse(text.String())
		if e != api.OK {
			expect(t, text.String(), results(x, e), results(none, api.ErrSyntax))
			continue
		}
		read++
		back, e := frame.Text(x)
		expect(t, text.String(), results(back, e), results(text.String(), api.OK))
	}
	if read < 1000 {
		t.Errorf("only %d texts are read", read)
	}
}

// P19.1 and P19.2: results share no memory with arguments, which remain as they are.
func TestMemory(t *testing.T) {
	x := at(api.Position, 5, "B", "A", "spare")
	x.Datums = x.Datums[:2]
	f := of(api.KindHole, x, at(api.Round, 1))
	f.Frames = f.Frames[:1]
	names, _ := frame.Datums(f)
	names[0] = "changed"
	again, _ := frame.Datums(f)
	expect(t, "Datums", results(again, f.Frames[0].Datums[:3], f.Frames[:2][1]), results([]string{"A", "B"}, at(0, 0, "B", "A", "spare").Datums, at(api.Round, 1)))
	a, _ := frame.Parse("flat 1 A B")
	b, _ := frame.Parse("flat 1 A B")
	a.Datums[0].Name = "changed"
	expect(t, "Parse", results(b), results(at(api.Flat, 1, "A", "B")))
}
