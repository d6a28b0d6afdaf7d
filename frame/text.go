package frame

import (
	"strconv"
	"strings"

	"metrolab/api"
	"metrolab/checks"
	"metrolab/dimension"
)

// maxDatums is how many datums a frame has at most.
const maxDatums = 3

// disc is the word for a round zone.
const disc = "disc"

// marks has what stands behind a word for its material condition.
var marks = [api.Materials]string{api.Maximum: "(M)", api.Least: "(L)"}

// Plain returns OK for frames that have a text.
func Plain(x api.Frame) api.Errno {
	return checks.First(
		checks.When(x.Kind < api.Straight || x.Kind >= api.Characteristics, api.ErrArg),
		checks.Each(checkMaterial, x.Material),
		checks.When(x.Tol < 0 || x.Tol > api.MaxCoord, api.ErrRange),
		checks.When(len(x.Datums) > maxDatums, api.ErrMany),
		func() api.Errno { return checkDatums(x.Datums) },
	)
}

func checkMaterial(material int) api.Errno {
	if material < api.Regardless || material >= api.Materials {
		return api.ErrArg
	}
	return api.OK
}

// checkDatums returns the first error of datums.
func checkDatums(l []api.Datum) api.Errno {
	for i, d := range l {
		if e := checks.First(
			checks.Each(dimension.Name, d.Name),
			checks.When(named(l[:i], d.Name), api.ErrTwice),
			checks.Each(checkMaterial, d.Material),
		); e != api.OK {
			return e
		}
	}
	return api.OK
}

// Text returns the text of a frame.
func Text(x api.Frame) (string, api.Errno) {
	if e := Plain(x); e != api.OK {
		return "", e
	}
	var text strings.Builder
	tell(x, func(word string, material int) {
		if text.Len() > 0 {
			text.WriteByte(' ')
		}
		text.WriteString(word)
		text.WriteString(marks[material])
	})
	return text.String(), api.OK
}

// tell passes on the words of a frame, each with the material condition that stands behind it.
func tell(x api.Frame, put func(word string, material int)) {
	put(kinds[x.Kind].word, api.Regardless)
	if x.Disc {
		put(disc, api.Regardless)
	}
	put(strconv.Itoa(x.Tol), x.Material)
	for _, d := range x.Datums {
		put(d.Name, d.Material)
	}
}

// Parse returns the frame with a text.
func Parse(s string) (api.Frame, api.Errno) {
	if len(s) > api.MaxText {
		return api.Frame{}, api.ErrLong
	}
	x := read(strings.Split(s, " "))
	if text, e := Text(x); e != api.OK || text != s {
		return api.Frame{}, api.ErrSyntax
	}
	return x, api.OK
}

// read returns the frame that words tell if they tell one. What it makes of other words is not their frame either: it has another text or none.
func read(words []string) api.Frame {
	x := api.Frame{Kind: characteristic(words[0])}
	words = words[1:]
	if len(words) > 0 && words[0] == disc {
		x.Disc, words = true, words[1:]
	}
	if len(words) == 0 {
		return x
	}
	tol, material := split(words[0])
	x.Tol, _ = strconv.Atoi(tol)
	x.Material = material
	for _, word := range words[1:] {
		name, material := split(word)
		x.Datums = append(x.Datums, api.Datum{Name: name, Material: material})
	}
	return x
}

// characteristic returns the characteristic with a word, or one that does not exist.
func characteristic(word string) int {
	for i, kind := range kinds {
		if kind.word == word {
			return i
		}
	}
	return api.Characteristics
}

// split returns what stands before the mark of a material condition, and the condition.
func split(word string) (string, int) {
	for material, mark := range marks {
		if before, found := strings.CutSuffix(word, mark); found && mark != "" {
			return before, material
		}
	}
	return word, api.Regardless
}
