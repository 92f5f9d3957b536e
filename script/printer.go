package script

import (
	"strconv"

	"scree/api"
)

// printer: a text that is made line by line.
type printer struct {
	text  []byte
	begun bool // something stands in the line under way
}

// put lays things into the line under way, a blank between any two.
func (t *printer) put(things ...string) {
	for _, thing := range things {
		if t.begun {
			t.text = append(t.text, ' ')
		}
		t.text = append(t.text, thing...)
		t.begun = true
	}
}

// numbers lays a word and numbers.
func (t *printer) numbers(word string, numbers ...int) {
	t.put(word)
	for _, n := range numbers {
		t.put(strconv.Itoa(n))
	}
}

// end ends the line under way.
func (t *printer) end() {
	t.text = append(t.text, '\n')
	t.begun = false
}

// step lays what a step names; nothing, if there is no text for such a step.
func (t *printer) step(x api.Step) {
	switch x.Kind {
	case api.StepSubmit:
		t.submit(x.A, x.Op)
	case api.StepMachine:
		t.numbers("do", x.A)
	case api.StepTick:
		t.put("tick")
	case api.StepFall:
		t.numbers("fall", x.A)
		for _, n := range x.Keep {
			t.put(strconv.Itoa(n))
		}
	case api.StepArm:
		t.numbers("arm", x.A)
	case api.StepFail:
		t.numbers("fail", x.A, x.B, x.C)
	}
}

func (t *printer) submit(client int, op api.Op) {
	switch op.Kind {
	case api.OpWrite:
		t.numbers("write", client)
		t.writes(op)
	case api.OpSync:
		t.numbers("sync", client)
	case api.OpGet:
		t.numbers("get", client)
		t.put(quote(op.Key))
		t.view(op.Snap)
	case api.OpScan:
		t.numbers("scan", client)
		t.put(quote(op.Key), quote(op.To), strconv.Itoa(op.N))
		t.view(op.Snap)
	case api.OpSnap:
		t.numbers("snap", client)
	case api.OpRelease:
		t.numbers("release", client, op.Snap)
	}
}

// writes lays the writes of a batch, and whether it asks for a sync.
func (t *printer) writes(op api.Op) {
	for _, w := range op.Writes {
		if w.Del {
			t.put("del", quote(w.Key))
		} else {
			t.put("put", quote(w.Key), quote(w.Val))
		}
	}
	if op.Sync {
		t.put("sync")
	}
}

// view lays the snapshot that a read is for, if there is one.
func (t *printer) view(snap int) {
	if snap != 0 {
		t.numbers("snap", snap)
	}
}
