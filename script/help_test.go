package script

import (
	"errors"
	"fmt"
	"slices"
	"strings"
	"testing"

	"scree/api"
)

// small: the right configuration of the chapter's example 4, as a text of one line.
const small = "clients 1 flushers 1 compactors 1 memory 4096 frozen 1 trigger 1 slow 1 stop 2 levels 3 base 4096 mult 2 file 2048 fan 1 block 64 restart 1 bloom 0 chunk 1088 rate 1 burst 1088 slowrate 1 slowburst 17408 group 1088 debt 17408 debtstop 86013 snapshots 0 scan 1 manifest 4096"

// place tells where a fault is and which one: "line at number"; "ok", if there is none.
func place(t *testing.T, err error) string {
	t.Helper()
	if err == nil {
		return "ok"
	}
	m, ok := err.(*Misread)
	if !ok || m == nil {
		t.Fatalf("not a Misread: %#v", err)
	}
	if !errors.Is(err, m.Err) || !strings.Contains(err.Error(), m.Err.Error()) {
		t.Errorf("%v doesn't tell %d", err, m.Err)
	}
	return fmt.Sprint(m.Line, " ", m.At, " ", int(m.Err))
}

// reads holds a script to be these steps.
func reads(t *testing.T, promise, text string, want ...api.Step) {
	t.Helper()
	l, err := Parse(text)
	if err != nil || !sameSteps(l, want) {
		t.Errorf("%s: Parse(%.200q): %v, %v, want %v", promise, text, l, err, want)
	}
}

// refuses holds a script to be refused.
func refuses(t *testing.T, promise, text, want string) {
	t.Helper()
	l, err := Parse(text)
	if got := place(t, err); got != want || l != nil && want != "ok" {
		t.Errorf("%s: Parse(%.200q): %d steps, %s, want %s", promise, text, len(l), got, want)
	}
}

// refusesConfig holds a configuration to be refused.
func refusesConfig(t *testing.T, promise, text, want string) {
	t.Helper()
	c, err := Config(text)
	if got := place(t, err); got != want || c != (api.Config{}) {
		t.Errorf("%s: Config(%.300q): %v, %s, want %s", promise, text, c, got, want)
	}
}

// prints holds steps to have that text, and the text to be read as them.
func prints(t *testing.T, promise, want string, l ...api.Step) {
	t.Helper()
	text, err := Print(l)
	if text != want || err != nil {
		t.Errorf("%s: Print(%v): %.300q, %v, want %.300q", promise, l, text, err, want)
	}
	reads(t, "P20.10", want, l...)
}

// hasNoText holds steps to have no text.
func hasNoText(t *testing.T, promise string, l ...api.Step) {
	t.Helper()
	if text, err := Print(l); text != "" || err != error(api.ErrScriptPrint) {
		t.Errorf("%s: Print(%.300s): %.300q, %#v", promise, fmt.Sprint(l), text, err)
	}
}

// sameSteps holds steps against each other by themselves, not as Print does; no list is an empty one.
func sameSteps(a, b []api.Step) bool {
	return slices.EqualFunc(a, b, func(x, y api.Step) bool { return fmt.Sprintf("%#v", plainStep(x)) == fmt.Sprintf("%#v", plainStep(y)) })
}

func plainStep(x api.Step) api.Step {
	if len(x.Keep) == 0 {
		x.Keep = nil
	}
	if len(x.Op.Writes) == 0 {
		x.Op.Writes = nil
	}
	return x
}

func submits(client int, op api.Op) api.Step {
	return api.Step{Kind: api.StepSubmit, A: client, Op: op}
}

func put(key, val string) api.Write { return api.Write{Key: key, Val: val} }

func del(key string) api.Write { return api.Write{Key: key, Del: true} }

var tick = api.Step{Kind: api.StepTick}

func does(machine int) api.Step { return api.Step{Kind: api.StepMachine, A: machine} }

// ticks: so many lines of it.
func ticks(n int) string { return strings.Repeat("tick\n", n) }
