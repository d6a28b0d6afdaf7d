package printer

import (
	"slices"
	"strconv"
	"strings"

	"metrolab/api"
	"metrolab/drawing"
	"metrolab/words"
)

// columns is how many columns the table has, and gap is what stands between them.
const (
	columns = 9
	gap     = "  "
)

// Table returns the sizes and places of the features as a table.
func Table(d api.Drawing) ([]string, api.Errno) {
	if e := drawing.Check(d); e != api.OK {
		return nil, e
	}
	var cells [][]string
	for _, f := range d.Features {
		cells = append(cells, row(f))
	}
	fill := filler(lengths(cells))
	var rows []string
	for _, l := range cells {
		rows = append(rows, fill(l))
	}
	return rows, api.OK
}

// row returns the words of the row of a feature.
func row(f api.Feature) []string {
	size := []string{"-", "-"}
	if f.Kind != api.KindPlane {
		size = numbers(f.Size.Low, f.Size.High)
	}
	return slices.Concat(
		[]string{f.Name, words.Kinds()[f.Kind], words.Axes()[f.Axis]},
		numbers(f.At.X, f.At.Y, f.At.Z),
		size,
		[]string{strconv.Itoa(len(f.Frames))},
	)
}

// lengths returns the length of the longest word of each column.
func lengths(cells [][]string) [columns]int {
	var longest [columns]int
	for _, l := range cells {
		for i, word := range l {
			longest[i] = max(longest[i], len(word))
		}
	}
	return longest
}

// filler returns a function that fills up the words of a row to the lengths of their columns.
func filler(lengths [columns]int) func(l []string) string {
	return func(l []string) string {
		var text strings.Builder
		for i, word := range l {
			text.WriteString(word)
			text.WriteString(strings.Repeat(" ", lengths[i]-len(word)))
			text.WriteString(gap)
		}
		return strings.TrimRight(text.String(), " ")
	}
}
