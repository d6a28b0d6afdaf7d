package words_test

import (
	"testing"

	"metrolab/api"
	"metrolab/words"
)

func TestWords(t *testing.T) {
	if l := words.Kinds(); l != [api.Kinds]string{"plane", "hole", "pin", "slot", "ball"} {
		t.Errorf("Kinds: %v", l)
	}
	if l := words.Axes(); l != [api.Axes]string{"x", "y", "z"} {
		t.Errorf("Axes: %v", l)
	}
}
