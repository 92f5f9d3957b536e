package script

import (
	"slices"

	"scree/api"
)

// Print tells a script's text.
func Print(l []api.Step) (string, error) {
	if !mayFit(l) {
		return "", api.ErrScriptPrint
	}
	var t printer
	for _, x := range l {
		t.step(x)
		t.end()
	}
	text := string(t.text)
	// What has no text, or fields that its text doesn't name, or is too much, isn't read again as it is.
	again, err := Parse(text)
	if err != nil || !slices.EqualFunc(l, again, sameStep) {
		return "", api.ErrScriptPrint
	}
	return text, nil
}

// mayFit tells whether steps aren't surely too many or too long for a text. It is asked first, so that no text is made that is far above its bound.
func mayFit(l []api.Step) bool {
	least := 0
	for _, x := range l {
		least += 1 + len(x.Op.Key) + len(x.Op.To) + len(x.Keep)
		for _, w := range x.Op.Writes {
			least += 1 + len(w.Key) + len(w.Val)
		}
		if least > api.MaxScriptText {
			return false
		}
	}
	return true
}

func sameStep(a, b api.Step) bool {
	return a.Kind == b.Kind && a.A == b.A && a.B == b.B && a.C == b.C &&
		sameOp(a.Op, b.Op) && slices.Equal(a.Keep, b.Keep)
}

func sameOp(a, b api.Op) bool {
	return a.Kind == b.Kind && slices.Equal(a.Writes, b.Writes) && a.Sync == b.Sync &&
		a.Key == b.Key && a.To == b.To && a.N == b.N && a.Snap == b.Snap
}
