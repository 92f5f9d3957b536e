package store

import (
	"fmt"
	"math/rand"
	"testing"

	"scree/api"
)

// tight: a configuration in which little suffices for everything to happen.
var tight = api.Config{
	Clients: 3, Flushers: 2, Compactors: 2, MemBytes: 4096, MaxImm: 2, L0Trigger: 1, L0Slow: 2, L0Stop: 3,
	Levels: 4, Base: 4096, Mult: 2, FileBytes: 2048, Fan: 1, BlockBytes: 64, Restart: 2, BloomBits: 4,
	MaxChunk: 1088, Rate: 2000, Burst: 2000, SlowRate: 2000, SlowBurst: 17408, MaxGroup: 2000, MaxDebt: 17408,
	DebtStop: 110000, Snapshots: 2, ScanLimit: 5, MaxManifest: 4096,
}

// longKey: keys of so many bytes fill a manifest fast.
func longKey(n int) string { return fmt.Sprintf("%064d", n) }

// recorded: a script, behind the coming up over an empty disk, in which all happens that calls the disk; steps that only waited are left out. It ends a while behind a roll.
func recorded(t *testing.T) []api.Step {
	t.Helper()
	r := rand.New(rand.NewSource(20))
	p := newPlay(t, tight, 0, nil, nil)
	p.comeUp()
	var l []api.Step
	do := func(x api.Step) {
		if got := p.step(x); got.Did != api.DidIdle && (got.Did != api.DidWait || got.Why == api.WaitTokens) {
			l = append(l, x)
		}
	}
	rolled := 0
	for i := 0; rolled < 40; i++ {
		if p.seen["roll"] > 0 {
			rolled++
		}
		k := r.Intn(p.opener())
		switch n := r.Intn(20); {
		case n == 0:
			do(api.Step{Kind: api.StepTick})
		case k >= p.c.Clients || !p.isResting(k):
			do(api.Step{Kind: api.StepMachine, A: k})
		default:
			do(api.Step{Kind: api.StepSubmit, A: k, Op: p.longOp(r, n)})
		}
		if i > 20_000 {
			t.Fatal("no roll")
		}
	}
	needs(t, p.seen, "admit lead switch append sync insert publish done claim make fill write seal install")
	return l
}

// longOp: an operation over few keys, as n says.
func (p *play) longOp(r *rand.Rand, n int) api.Op {
	switch {
	case n < 3:
		return one(r, api.Op{Kind: api.OpSnap}, api.Op{Kind: api.OpRelease, Snap: max(1, p.m.made-r.Intn(2))}, api.Op{Kind: api.OpSync})
	case n < 5:
		return one(r, api.Op{Kind: api.OpGet, Key: longKey(r.Intn(20))}, api.Op{Kind: api.OpScan, N: 5})
	}
	w := api.Write{Key: longKey(r.Intn(14)), Del: r.Intn(4) == 0, Val: fmt.Sprintf("%400d", len(p.steps))}
	return api.Op{Kind: api.OpWrite, Writes: []api.Write{w}, Sync: r.Intn(4) == 0}
}

// again plays a script with something rigged ahead of one of its steps: up to where that shows, and a while more; then it falls, comes up, and begins anew. It tells what the machine was at where it showed; below 0: it didn't show.
func again(t *testing.T, r *rand.Rand, l []api.Step, at int, rig api.Step) place {
	t.Helper()
	p := newPlay(t, tight, 0, nil, nil)
	p.comeUp()
	shown, more := place(-1), 60
	for i, x := range l {
		if i == at {
			p.step(rig)
		}
		was := resting
		if x.Kind == api.StepMachine {
			was = p.s.machines[x.A].at
		}
		p.step(x)
		if shown < 0 && (!p.m.up || p.m.readOnly) {
			shown = was
			p.holdBytes(r, 5)
		}
		if shown >= 0 {
			more--
		}
		if more == 0 {
			break
		}
	}
	if shown < 0 {
		return shown
	}
	p.holdBytes(r, 2)
	p.step(anyFall(r))
	if r := p.comeUp(); r.Did != api.DidUp {
		t.Fatalf("P22.10: the next coming up: %s, error %d", word(r), r.Err)
	}
	for _, x := range l[:min(len(l), 80)] {
		p.step(x)
	}
	return shown
}

// meets holds a test to have met each place where the disk is called.
func meets(t *testing.T, seen map[place]int) {
	t.Helper()
	for _, at := range []place{appending, syncing, making, writing, pacing, sealing, flushed, compacted, releasing} {
		if seen[at] == 0 {
			t.Errorf("the cases are too few to tell anything: nothing at place %d", at)
		}
	}
}

// TestEveryFault: each call of a script's that changes the disk fails.
func TestEveryFault(t *testing.T) {
	t.Parallel()
	l := recorded(t)
	seen := map[place]int{}
	for call := 0; ; call++ {
		r := rand.New(rand.NewSource(int64(call)))
		shown := again(t, r, l, 0, api.Step{Kind: api.StepFail, A: call, B: one(r, 1, 1, 3), C: one(r, 0, 7, 1<<30)})
		if shown < 0 {
			break
		}
		seen[shown]++
	}
	meets(t, seen)
}

// TestEveryFall: the machine falls within each kind of step of a script's, at many of its units.
func TestEveryFall(t *testing.T) {
	t.Parallel()
	l := recorded(t)
	seen := map[place]int{}
	p := newPlay(t, tight, 0, nil, nil)
	p.comeUp()
	for i, x := range l {
		r := rand.New(rand.NewSource(int64(i)))
		was := resting
		if x.Kind == api.StepMachine {
			was = p.s.machines[x.A].at
		}
		n := len(p.m.d.Files())
		switch did := p.step(x).Did; {
		case did == api.DidRoll:
			for _, unit := range rollUnits(p) {
				seen[again(t, r, l, i, api.Step{Kind: api.StepArm, A: unit})]++
			}
		case did == api.DidDone && n > len(p.m.d.Files()):
			seen[again(t, r, l, i, api.Step{Kind: api.StepArm, A: 1 + r.Intn(n-len(p.m.d.Files()))})]++
		case did == api.DidInstall, did == api.DidSwitch, was >= appending && was <= syncing && i%3 == 0, was >= making && i%5 == 0:
			seen[again(t, r, l, i, api.Step{Kind: api.StepArm, A: one(r, 1, 2, 3, 4, 1+r.Intn(400))})]++
		}
	}
	meets(t, seen)
}

// rollUnits: units of the roll that was just done: all calls, and some bytes.
func rollUnits(p *play) []int {
	long := p.m.size(nameOf("m", p.m.roots.Manifest))
	l := []int{1, 2, 3, long / 2}
	for i := range 35 {
		l = append(l, long+i)
	}
	return l
}
