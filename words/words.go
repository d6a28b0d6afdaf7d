// Package words has the words for the kinds of features and for the axes in the language of drawings.
package words

import "metrolab/api"

// Kinds returns the words for the kinds of features.
func Kinds() [api.Kinds]string {
	return [api.Kinds]string{api.KindPlane: "plane", api.KindHole: "hole", api.KindPin: "pin", api.KindSlot: "slot", api.KindBall: "ball"}
}

// Axes returns the words for the axes.
func Axes() [api.Axes]string {
	return [api.Axes]string{api.AxisX: "x", api.AxisY: "y", api.AxisZ: "z"}
}
