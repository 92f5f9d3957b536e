package store

import (
	"fmt"
	"math/rand"
	"slices"
	"strings"
	"testing"

	"scree/api"
	"scree/pace"
)

// fair steps each machine and the clock once a round, in any order; so it is W-fair for any two rounds less one step.
type fair struct {
	r     *rand.Rand
	p     *play
	order []int
	steps int
}

func newFair(r *rand.Rand, p *play) *fair {
	f := &fair{r: r, p: p}
	for k := range p.opener() + 2 {
		f.order = append(f.order, k)
	}
	return f
}

// w is the W by which it is W-fair.
func (f *fair) w() int { return 2*len(f.order) - 1 }

// round does a round; each machine's reply is handed to see.
func (f *fair) round(see func(k int, r api.Reply)) {
	f.r.Shuffle(len(f.order), func(i, j int) { f.order[i], f.order[j] = f.order[j], f.order[i] })
	for _, k := range f.order {
		f.steps++
		if k > f.p.opener() {
			f.p.s.Step(api.Step{Kind: api.StepTick})
			continue
		}
		see(k, f.p.s.Do(k))
	}
}

// anywhere plays a script to some state that is up, mostly with an operation here and there under way.
func anywhere(t *testing.T, r *rand.Rand, falls bool) (*play, chance) {
	t.Helper()
	c := anyConfig(r)
	c.Rate = max(c.Rate, 100)
	p := newPlay(t, c, 0, nil, nil)
	p.comeUp()
	h := anyChance(r, c)
	if falls {
		h.arms, h.falls = 20, 10
	}
	p.goOn(r, h, r.Intn(2500))
	if p.s.d.Down() {
		p.step(anyFall(r))
	}
	if !p.m.up {
		p.comeUp()
	}
	p.step(api.Step{Kind: api.StepArm})
	return p, h
}

// TestRest: P22.4.
func TestRest(t *testing.T) {
	t.Parallel()
	longest := 0.0
	for n := range 120 {
		r := rand.New(rand.NewSource(int64(6900 + n)))
		p, _ := anywhere(t, r, n%3 == 0)
		weight := p.s.Status().Active
		for _, m := range p.m.frozen() {
			weight += m.weight()
		}
		for level := range p.c.Levels {
			weight += p.m.weightOf(level)
		}
		for _, v := range p.m.held {
			for _, m := range v.mems {
				weight += m.weight()
			}
			for _, x := range slices.Concat(v.tables.levels...) {
				weight += x.Weight
			}
		}
		f := newFair(r, p)
		bound := pace.Mul(f.w(), pace.B2(p.c, weight))
		for !atRest(p) {
			f.round(func(int, api.Reply) {})
			if f.steps > bound || f.steps > 3_000_000 {
				t.Fatalf("P22.4: no rest within %d steps, of %d: %+v", f.steps, bound, p.s.Status())
			}
		}
		longest = max(longest, float64(f.steps)/float64(bound))
		before, files := fmt.Sprint(p.s.Levels()), p.s.Files()
		status := p.s.Status()
		f.round(func(k int, r api.Reply) {
			if r.Did != api.DidIdle {
				t.Fatalf("P22.4: at rest machine %d answers %s", k, word(r))
			}
		})
		after := p.s.Status()
		after.Clock, after.Tokens, after.Slow = status.Clock, status.Tokens, status.Slow
		if fmt.Sprint(p.s.Levels()) != before || !sameFiles(files, p.s.Files()) || !sameStatus(status, after) {
			t.Fatalf("P22.4: at rest something changes: %+v", p.s.Status())
		}
	}
	t.Logf("at most %.2g of the bound", longest)
}

// atRest tells whether a store is at rest.
func atRest(p *play) bool {
	x := p.s.Status()
	levels := p.s.Levels()
	if x.Frozen > 0 || len(levels[0]) >= p.c.L0Trigger || len(x.Jobs) > 0 || x.Pins > 0 || len(x.Line)+len(x.Queue) > 0 {
		return false
	}
	for i := 1; i < p.c.Levels-1; i++ {
		sum := 0
		for _, x := range levels[i] {
			sum += x.Weight
		}
		if sum >= pace.Limit(p.c, i) {
			return false
		}
	}
	for k := range p.c.Clients {
		if p.s.machines[k].at != resting {
			return false
		}
	}
	wanted := map[string]int{}
	for _, l := range levels {
		for _, x := range l {
			wanted[nameOf("t", x.Number)]++
		}
	}
	for _, v := range p.s.snapshots {
		for level := range p.c.Levels {
			for _, x := range v.version.Tables(level) {
				wanted[nameOf("t", x.Number)]++
			}
		}
	}
	for _, f := range p.s.Files() {
		if strings.HasPrefix(f.Name, "t-") && wanted[f.Name] == 0 {
			return false
		}
	}
	return true
}

// TestAnswered: P22.3 and P22.9: a write is told, while others go on to write.
func TestAnswered(t *testing.T) {
	t.Parallel()
	calm, all := 0, 0
	for n := range 150 {
		r := rand.New(rand.NewSource(int64(7900 + n)))
		p, h := anywhere(t, r, n%3 == 0)
		if n%2 == 0 {
			h.heavy, h.long, h.reads = 9, one(r, 5, 9), 1
		}
		f := newFair(r, p)
		for range 10 {
			k := r.Intn(p.c.Clients)
			op := h.op(r, p.c, len(p.steps)+f.steps, p.s.lastSnap)
			for op.Kind != api.OpSync && (op.Kind != api.OpWrite || len(op.Writes) == 0) {
				op = api.Op{Kind: api.OpWrite, Writes: h.batch(r, f.steps), Sync: r.Intn(2) == 0}
			}
			x := p.s.Status()
			if p.s.Submit(k, op).Did != api.DidTake {
				f.round(func(int, api.Reply) {})
				continue
			}
			all++
			if told(t, f, h, k, x) {
				calm++
			}
		}
	}
	t.Logf("%d writes, %d of them calm", all, calm)
	if calm < 100 || all-calm < 50 {
		t.Errorf("the cases are too few to tell anything")
	}
}

// told holds a write that was just taken to be told in time; x is the status ahead of it. It tells whether nothing hindered anybody meanwhile.
func told(t *testing.T, f *fair, h chance, k int, x api.Status) bool {
	t.Helper()
	p := f.p
	from := f.steps
	bound := pace.Mul(f.w(), pace.B1(p.c, x.Debt))
	calm, done := true, false
	for !done {
		f.round(func(who int, r api.Reply) {
			switch r.Why {
			case api.WaitPending, api.WaitDebt, api.WaitStop, api.WaitSlow, api.WaitRoom:
				calm = calm && who >= p.c.Clients
			}
			if who == k && r.Did == api.DidDone {
				done = true
				if r.Err != api.OK {
					t.Fatalf("P22.3: error %d", r.Err)
				}
			}
		})
		// The others go on, each as soon as it can.
		for other := range p.c.Clients {
			if other != k && f.r.Intn(3) > 0 {
				p.s.Submit(other, h.op(f.r, p.c, f.steps, p.s.lastSnap))
				f.steps++
			}
		}
		if f.steps-from > bound || f.steps-from > 3_000_000 {
			t.Fatalf("P22.3: not told within %d steps, of %d: %+v", f.steps-from, bound, p.s.Status())
		}
	}
	// Submissions are steps, too: a round has so many more.
	w := f.w() + 2*p.c.Clients
	if most := w * (2*p.c.Clients + 10) * (1 + len(x.Line) + len(x.Queue)); calm && f.steps-from > most {
		t.Fatalf("P22.9: told within %d steps, of %d", f.steps-from, most)
	}
	return calm
}

// TestReadOnlyTells: P22.10: how soon all are told.
func TestReadOnlyTells(t *testing.T) {
	t.Parallel()
	waiting := 0
	for n := range 200 {
		r := rand.New(rand.NewSource(int64(8900 + n)))
		p, h := anywhere(t, r, false)
		h.reads, h.syncs = one(r, 0, 3), one(r, 0, 5)
		for k := range h.weights {
			h.weights[k] = 3
		}
		p.step(api.Step{Kind: api.StepFail, A: r.Intn(6), B: 1 << 40, C: r.Intn(40)})
		for i := 0; !p.m.readOnly; i++ {
			p.goOn(r, h, 1)
			if i > 20_000 {
				t.Fatal("no fault is met")
			}
		}
		for k := range p.c.Clients {
			if r.Intn(2) == 0 {
				p.step(api.Step{Kind: api.StepSubmit, A: k, Op: api.Op{Kind: api.OpWrite, Writes: h.batch(r, k), Sync: true}})
			}
		}
		left := 0
		for k, o := range p.m.ops {
			if o.Kind == api.OpWrite || o.Kind == api.OpSync {
				left |= 1 << k
				waiting++
			}
		}
		for range p.c.Clients + 4 {
			for _, k := range r.Perm(p.c.Clients) {
				if p.do(k).Did == api.DidDone {
					left &^= 1 << k
				}
			}
		}
		if left != 0 {
			t.Fatalf("P22.10: not told: %b: %+v", left, p.s.Status())
		}
		if x := p.s.Status(); len(x.Line)+len(x.Queue) > 0 || len(x.Jobs)+len(x.TokenLine) > 0 || !x.ReadOnly {
			t.Fatalf("P22.10: %+v", x)
		}
		p.step(anyFall(r))
		if r := p.comeUp(); r.Did != api.DidUp {
			t.Fatalf("P22.10: the next coming up: %s, error %d", word(r), r.Err)
		}
	}
	if waiting < 200 {
		t.Errorf("the cases are too few to tell anything: %d", waiting)
	}
}
