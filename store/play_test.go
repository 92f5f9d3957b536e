package store

import (
	"bytes"
	"fmt"
	"math/rand"
	"slices"
	"strings"
	"testing"

	"scree/api"
)

var (
	didWords = strings.Fields("nothing idle wait refused take admit lead switch append sync insert publish pin look done claim make fill write seal roll install open up tick fall rig readonly")
	whyWords = strings.Fields("- turn pending debt stop slow lead room locks tokens")
)

// word tells a reply by its Did and Why.
func word(r api.Reply) string {
	if r.Why != 0 {
		return didWords[r.Did] + ":" + whyWords[r.Why]
	}
	return didWords[r.Did]
}

// play: a store that is held step by step against the model of it, and what came of it.
type play struct {
	t     testing.TB
	c     api.Config
	s     *Store
	m     *model
	steps []api.Step
	seen  map[string]int
	last  map[int]api.Reply // by machine
	now   api.Reply         // of the last step
	watch *watch
}

func newPlay(t testing.TB, c api.Config, room int, files []api.File, draws []byte) *play {
	t.Helper()
	s, err := New(c, room, files, draws)
	if err != api.OK {
		t.Fatalf("P19.1: New: error %d", err)
	}
	return &play{t: t, c: c, s: s, m: newModel(c, room, files), seen: map[string]int{}, last: map[int]api.Reply{}, watch: newWatch(c, room)}
}

// same holds replies against each other; no list is an empty one.
func same(a, b api.Reply) bool {
	return a.Did == b.Did && a.Why == b.Why && a.Err == b.Err && a.Val == b.Val && a.Found == b.Found && a.Snap == b.Snap && a.Wrote == b.Wrote && slices.Equal(a.Pairs, b.Pairs)
}

func sameStatus(a, b api.Status) bool {
	return a.Up == b.Up && a.ReadOnly == b.ReadOnly && a.Clock == b.Clock && a.Seq == b.Seq &&
		a.Load == b.Load && a.Debt == b.Debt && a.Pending == b.Pending && a.Tokens == b.Tokens && a.Slow == b.Slow &&
		a.Active == b.Active && a.Frozen == b.Frozen && a.Snapshots == b.Snapshots && a.Pins == b.Pins &&
		slices.Equal(a.Line, b.Line) && slices.Equal(a.Queue, b.Queue) && slices.Equal(a.TokenLine, b.TokenLine) &&
		slices.EqualFunc(a.Jobs, b.Jobs, sameJob)
}

func sameJob(a, b api.Job) bool {
	return a.Level == b.Level && a.Cut == b.Cut && a.Move == b.Move && slices.Equal(a.Upper, b.Upper) && slices.Equal(a.Lower, b.Lower)
}

func sameLevels(a, b [][]api.Table) bool { return slices.EqualFunc(a, b, slices.Equal) }

func sameFiles(a, b []api.File) bool {
	return slices.EqualFunc(a, b, func(x, y api.File) bool {
		return x.Name == y.Name && x.Sure == y.Sure && bytes.Equal(x.Data, y.Data)
	})
}

// fail tells the last steps.
func (p *play) fail(format string, args ...any) {
	p.t.Helper()
	from := max(0, len(p.steps)-12)
	p.t.Fatalf("step %d: %s\nconfiguration: %+v\nlast steps: %.3000s", len(p.steps), fmt.Sprintf(format, args...), p.c, fmt.Sprintf("%+v", p.steps[from:]))
}

// step does a step.
func (p *play) step(x api.Step) api.Reply {
	p.t.Helper()
	p.steps = append(p.steps, x)
	before := p.s.Status()
	want := p.m.step(x)
	got := p.s.Step(x)
	if !same(got, want) {
		p.fail("reply %s %.300s, want %s %.300s", word(got), fmt.Sprintf("%+v", got), word(want), fmt.Sprintf("%+v", want))
	}
	p.seen[word(got)]++
	p.now = got
	if x.Kind == api.StepMachine {
		p.last[x.A] = got
	}
	if a, b := p.s.Status(), p.m.status(); !sameStatus(a, b) {
		p.fail("P19.19: status behind %s: %+v, want %+v", word(got), a, b)
	}
	if a, b := p.s.Levels(), p.m.told(); !sameLevels(a, b) {
		p.fail("P19.19: levels behind %s: %v, want %v", word(got), a, b)
	}
	if changesFiles(got) && (len(p.steps)%4 == 0 || got.Err != api.OK) {
		p.holdFiles()
	}
	if p.watch == nil {
		return got
	}
	if wrong := p.watch.see(p, x, got, before, p.s.Status()); wrong != "" {
		p.fail("%s", wrong)
	}
	return got
}

func changesFiles(r api.Reply) bool {
	switch r.Did {
	case api.DidWait, api.DidIdle, api.DidTake, api.DidNothing, api.DidTick, api.DidPin, api.DidInsert:
		return false
	}
	return true
}

// holdFiles holds the disks against each other.
func (p *play) holdFiles() {
	p.t.Helper()
	if a, b := p.s.Files(), p.m.d.Files(); !sameFiles(a, b) {
		p.fail("files: %s, want %s", listed(a), listed(b))
	}
}

func listed(files []api.File) string {
	var l []string
	for _, f := range files {
		l = append(l, fmt.Sprintf("%s %d/%d", f.Name, f.Sure, len(f.Data)))
	}
	return strings.Join(l, ", ")
}

func (p *play) do(k int) api.Reply {
	p.t.Helper()
	return p.step(api.Step{Kind: api.StepMachine, A: k})
}

func (p *play) opener() int { return p.c.Clients + p.c.Flushers + p.c.Compactors }

// comeUp lets the opener step till it has ended.
func (p *play) comeUp() api.Reply {
	p.t.Helper()
	for {
		if r := p.do(p.opener()); r.Did != api.DidOpen {
			return r
		}
	}
}

// goOn does so many steps of a script.
func (p *play) goOn(r *rand.Rand, h chance, n int) {
	p.t.Helper()
	for range n {
		switch {
		// Little can be told of a store that is down.
		case p.s.d.Down() && r.Intn(5) == 0:
			p.step(anyFall(r))
		case !p.s.d.Down() && !p.m.up && r.Intn(3) > 0:
			p.do(p.opener())
		default:
			p.step(h.next(r, p.c, len(p.steps), p.m.made, p.isResting, p.isCalm))
		}
	}
}

func (p *play) isResting(k int) bool { return p.m.ops[k] == nil }

func (p *play) isCalm(k int) bool {
	return p.last[k].Did == api.DidIdle || p.last[k].Did == api.DidWait
}
