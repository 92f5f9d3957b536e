package store

import (
	"fmt"
	"math/rand"
	"strings"

	"scree/api"
	"scree/pace"
)

func one[T any](r *rand.Rand, l ...T) T { return l[r.Intn(len(l))] }

// anyConfig: a right one, mostly of small numbers, so that a short script comes to all that may happen.
func anyConfig(r *rand.Rand) api.Config {
	c := api.Config{
		Clients: one(r, 1, 2, 3, 3, 4, 8), Flushers: one(r, 1, 2), Compactors: one(r, 1, 2, 3),
		MemBytes: one(r, 4096, 4096, 6000, 20000), MaxImm: one(r, 1, 1, 2, 4),
		L0Trigger: one(r, 1, 1, 2, 4), Levels: one(r, 3, 4, 4, 5), Base: one(r, 4096, 4096, 8000), Mult: one(r, 2, 2, 3),
		FileBytes: one(r, 2048, 2048, 3000, 9000), Fan: one(r, 1, 1, 2, 4), BlockBytes: one(r, 64, 512, 4096), Restart: one(r, 1, 4, 16), BloomBits: one(r, 0, 10, 16),
		MaxChunk: one(r, 1088, 1088, 2000, 10000), Rate: one(r, 1, 300, 1088, 1<<20),
		SlowRate: one(r, 1, 500, 20000), SlowBurst: one(r, 17408, 17408, 40000), MaxGroup: one(r, 1088, 1088, 4000, 40000), MaxDebt: one(r, 17408, 17408, 40000, 200000),
		Snapshots: one(r, 0, 1, 2, 8), ScanLimit: one(r, 1, 3, 20, 256), MaxManifest: one(r, 4096, 4096, 8000),
	}
	c.L0Slow = c.L0Trigger + r.Intn(3)
	c.L0Stop = max(c.L0Slow+one(r, 0, 1, 2, 10), c.Flushers+1)
	c.Burst = c.MaxChunk + one(r, 0, 0, 3000)
	c.DebtStop = (c.L0Trigger+c.MaxImm+2)*memCap(c) + 1 + one(r, 0, 0, 5000)
	if place, err := pace.Check(c); err != api.OK {
		panic(fmt.Sprint("no right configuration: field ", place))
	}
	return c
}

func memCap(c api.Config) int { return c.MemBytes - 1 + max(c.MaxGroup, 17408) }

// chance: how likely a script does what.
type chance struct {
	keys    int   // how many unlike ones
	heavy   int   // of 10 values how many are long
	long    int   // of 10 batches how many have many writes
	dels    int   // of 10 writes how many are deletes
	syncs   int   // of 10 writes how many ask for it
	reads   int   // of 10 operations how many read
	submits int   // of 100 steps how many are submissions
	ticks   int   // of 100 steps how many are ticks
	weights []int // how often a machine is stepped, against the others
	wrong   bool  // submissions may be wrong
	faults  int   // of 10000 steps
	arms    int
	falls   int
}

func anyChance(r *rand.Rand, c api.Config) chance {
	h := chance{keys: one(r, 3, 10, 40, 200), heavy: one(r, 0, 3, 8), long: one(r, 0, 0, 2, 8), dels: one(r, 0, 2, 5), syncs: one(r, 0, 1, 5), reads: one(r, 0, 1, 3, 7),
		submits: one(r, 5, 15, 30), ticks: one(r, 1, 5, 10), wrong: r.Intn(2) == 0}
	for range c.Clients + c.Flushers + c.Compactors + 1 {
		h.weights = append(h.weights, one(r, 1, 3, 3, 3, 9))
	}
	// One machine, or a kind of them, that hardly ever steps: what waits for it is seen to wait.
	if r.Intn(2) == 0 {
		for range one(r, 1, 2, 3) {
			h.weights[r.Intn(len(h.weights))] = 0
		}
	}
	h.weights[len(h.weights)-1] = max(h.weights[len(h.weights)-1], 1)
	return h
}

func (h chance) key(r *rand.Rand) string {
	n := r.Intn(h.keys)
	if n == 1 {
		return strings.Repeat("m", api.MaxKey)
	}
	return string([]byte{one[byte](r, 0, 'a', 'z', 255)}[:n%2]) + fmt.Sprintf("k%03d", n)
}

func (h chance) val(r *rand.Rand, stamp int) string {
	if r.Intn(10) < h.heavy {
		return fmt.Sprintf("%-*d", one(r, 300, 511, 512), stamp)
	}
	return fmt.Sprint(stamp)[:r.Intn(2)*len(fmt.Sprint(stamp))]
}

func (h chance) batch(r *rand.Rand, stamp int) []api.Write {
	n := 1
	if r.Intn(10) < h.long {
		n = one(r, 2, 5, 16, 16)
	} else if r.Intn(30) == 0 {
		n = 0
	}
	var l []api.Write
	for i := range n {
		w := api.Write{Key: h.key(r), Del: r.Intn(10) < h.dels, Val: h.val(r, stamp*100+i)}
		l = append(l, w)
	}
	return l
}

// op: an operation that may be; snaps are the snapshots that are out, or were.
func (h chance) op(r *rand.Rand, c api.Config, stamp, snaps int) api.Op {
	if r.Intn(10) >= h.reads {
		if r.Intn(20) == 0 {
			return api.Op{Kind: api.OpSync, Writes: make([]api.Write, 40), Key: "unused"}
		}
		return api.Op{Kind: api.OpWrite, Writes: h.batch(r, stamp), Sync: r.Intn(10) < h.syncs, N: -1, Snap: 99}
	}
	snap := 0
	if snaps > 0 && r.Intn(3) == 0 {
		snap = snaps - r.Intn(min(snaps, 3))
	}
	switch r.Intn(9) {
	case 0:
		return api.Op{Kind: api.OpSnap, Snap: 7}
	case 1:
		return api.Op{Kind: api.OpRelease, Snap: max(1, snap)}
	case 2, 3, 4:
		op := api.Op{Kind: api.OpScan, N: 1 + r.Intn(c.ScanLimit), Snap: snap}
		if r.Intn(2) == 0 {
			op.Key = h.key(r)
		}
		if r.Intn(3) == 0 {
			op.To = h.key(r)
		}
		return op
	}
	return api.Op{Kind: api.OpGet, Key: h.key(r), Snap: snap, To: strings.Repeat("x", 99)}
}

// wrongOp: one that may be wrong.
func (h chance) wrongOp(r *rand.Rand, c api.Config, stamp, snaps int) api.Op {
	op := h.op(r, c, stamp, snaps)
	switch r.Intn(6) {
	case 0:
		op.Kind = one(r, 0, -1, 7, 1<<40)
	case 1:
		op.Key = one(r, "", strings.Repeat("k", 65))
	case 2:
		op.To = strings.Repeat("k", 65)
	case 3:
		op.N = one(r, 0, -1, c.ScanLimit+1)
	case 4:
		op.Snap = one(r, -1, 0, 1000)
	case 5:
		op.Writes = append(op.Writes, one(r, api.Write{}, api.Write{Key: strings.Repeat("k", 65)}, api.Write{Key: "k", Val: strings.Repeat("v", 513)}))
		op.Writes = append(op.Writes, make([]api.Write, one(r, 0, 20))...)
	}
	return op
}

// next: a step of a script; resting tells whether a client has no operation, calm whether a machine had nothing to do when it was stepped last.
func (h chance) next(r *rand.Rand, c api.Config, stamp, snaps int, resting, calm func(k int) bool) api.Step {
	machines := c.Clients + c.Flushers + c.Compactors + 1
	switch n := r.Intn(10000); {
	case n < h.faults:
		return api.Step{Kind: api.StepFail, A: one(r, 0, 1, 3, r.Intn(20)), B: one(r, 1, 1, 2, 5), C: one(r, 0, 1, 20, 9999)}
	case n < h.faults+h.arms:
		return api.Step{Kind: api.StepArm, A: one(r, 1, 2, 3, r.Intn(50), r.Intn(3000))}
	case n < h.faults+h.arms+h.falls:
		return anyFall(r)
	}
	n := r.Intn(100)
	switch {
	case n < h.submits && h.wrong && r.Intn(10) == 0:
		return api.Step{Kind: api.StepSubmit, A: one(r, r.Intn(c.Clients), r.Intn(c.Clients), -1, c.Clients), Op: h.wrongOp(r, c, stamp, snaps)}
	case n < h.submits:
		k := r.Intn(c.Clients)
		for range 10 {
			if !resting(k) {
				k = r.Intn(c.Clients)
			}
		}
		if resting(k) || r.Intn(20) == 0 {
			return api.Step{Kind: api.StepSubmit, A: k, Op: h.op(r, c, stamp, snaps)}
		}
	case n < h.submits+h.ticks:
		return api.Step{Kind: api.StepTick}
	case h.wrong && r.Intn(200) == 0:
		return api.Step{Kind: one(r, 0, -3, 7, api.StepMachine), A: one(r, -1, machines, 1<<40)}
	}
	k := h.machine(r)
	for range 6 {
		if calm(k) {
			k = h.machine(r)
		}
	}
	return api.Step{Kind: api.StepMachine, A: k}
}

// machine: one of them, by their weights.
func (h chance) machine(r *rand.Rand) int {
	sum := 0
	for _, w := range h.weights {
		sum += w
	}
	pick := r.Intn(sum)
	for k, w := range h.weights {
		if pick < w {
			return k
		}
		pick -= w
	}
	panic("no machine")
}

func anyFall(r *rand.Rand) api.Step {
	x := api.Step{Kind: api.StepFall, A: one(r, 0, 0, 1, 2, 5, 99)}
	for range r.Intn(4) {
		x.Keep = append(x.Keep, one(r, 0, 0, 1, 7, 100, 1<<30, -1))
	}
	return x
}
