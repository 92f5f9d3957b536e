package store

import (
	"fmt"
	"strings"
	"testing"

	"scree/api"
	"scree/log"
)

// logged tells the records of a log, each batch in brackets: `1[a b][c] 4[d]`.
func (w hand) logged(number uint64) string {
	w.t.Helper()
	recs, _, err := log.Read(w.bytesOf(nameOf("l", number)))
	if err != api.OK {
		w.t.Fatalf("P19.8: error %d", err)
	}
	var l []string
	for _, rec := range recs {
		first, batches, err := log.Get(rec)
		if err != api.OK {
			w.t.Fatalf("P19.8: error %d", err)
		}
		text := fmt.Sprint(first)
		for _, batch := range batches {
			var keys []string
			for _, x := range batch {
				keys = append(keys, x.Key)
			}
			text += "[" + strings.Join(keys, " ") + "]"
		}
		l = append(l, text)
	}
	return strings.Join(l, " ")
}

// TestExamples: the chapter's.
func TestExamples(t *testing.T) {
	w := upOver(t, small)
	w.does(4, "idle")
	w.gets(0, put("a", "1"), "take")
	w.does(0, "admit lead append insert publish done")
	w.gets(0, put("b", "2"), "take")
	w.gets(1, synced(put("c", "3")), "take")
	w.does(1, "wait:turn")
	w.does(0, "admit")
	w.does(1, "admit")
	w.does(0, "lead append sync insert insert publish done")
	w.does(1, "done")
	w.gets(0, snapOp, "take")
	w.does(0, "done=snap1")
	w.fills("d", "e", "f")
	w.is("example 3", w.Status().Active, 4239)
	w.gets(0, put("g", big), "take")
	w.does(0, "admit lead switch append insert publish done")
	w.gets(0, put("h", big), "take")
	w.does(0, "admit lead append insert publish done")
	w.is("example 3", w.Status(), api.Status{Up: true, Seq: 8, Load: 6163, Debt: 2067, Tokens: 1088, Slow: 17408, Active: 1924, Frozen: 1, Snapshots: 1})
	w.does(2, "claim")
	w.is("example 4: the jobs", w.Status().Jobs, []api.Job{{Level: -1}})
	w.does(2, "fill fill make write=1088 fill write=598 seal install idle")
	w.is("example 4", w.Levels(), [][]api.Table{{{Number: 4, Weight: 4239, Bytes: 1686, Entries: 6, Least: "a", Greatest: "f"}}, {}, {}})
	w.does(3, "claim fill fill make write=600 seal fill make write=1088 wait:tokens")
	w.is("example 5: the token line", w.Status().TokenLine, []int{3})
	w.Step(api.Step{Kind: api.StepTick})
	w.does(3, "write=25 seal install claim fill fill make write=600 seal install idle")
	w.is("example 5", w.tables(), "/6:e-f/7:a-d")
	w.gets(1, get("e"), "take")
	w.does(1, `pin done=found"`+big+`"`)
	w.gets(1, of(1, scan("", "", 2)), "take")
	w.does(1, "pin done=a:1,b:2")
	w.gets(1, release(1), "take")
	w.does(1, "done")
	w.fails(0, 1, 0)
	w.gets(0, put("z", "1"), "take")
	w.does(0, "admit lead readonly!31 done!193")
	w.gets(0, put("z", "1"), "take")
	w.does(0, "done!192")
	w.falls(99, 99999)
	w.does(4, "14*open up")
	w.is("example 7", w.tables(), "8:g-h/6:e-f/7:a-d")
}

// TestLine: who waits for whom in the admission line, and for what, in the order in which it is asked.
func TestLine(t *testing.T) {
	w := upOver(t, small)
	w.gets(1, put("a", big), "take")
	w.gets(0, syncOp, "take")
	w.is("the line", w.Status().Line, []int{1, 0})
	w.does(0, "wait:turn wait:turn")
	w.does(1, "admit")
	w.is("the line and the queue", fmt.Sprint(w.Status().Line, w.Status().Queue), "[0] [1]")
	w.does(0, "admit wait:lead")
	w.is("P19.19: Pending", w.Status().Pending, 962)
	w.does(1, "lead")
	w.is("the queue while one leads", w.Status().Queue, []int{1, 0})
	w.does(0, "wait:lead")
	w.does(1, "append sync insert publish")
	w.is("behind that", fmt.Sprint(w.Status().Line, w.Status().Queue, w.Status().Pending), "[] [] 0")
	w.does(0, "done")
	w.does(1, "done")
}

// sixteen: a batch of the greatest weight.
func sixteen(from int) api.Op {
	op := api.Op{Kind: api.OpWrite}
	for i := range 16 {
		op.Writes = append(op.Writes, api.Write{Key: longKey(from + i), Val: big})
	}
	return op
}

// TestPending: Pending and a write's weight may come to MaxDebt, and not above it.
func TestPending(t *testing.T) {
	c := small
	c.MaxDebt = 17408 + 450
	w := upOver(t, c)
	w.gets(0, sixteen(0), "take")
	w.does(0, "admit")
	w.gets(1, put("a", "1"), "take")
	w.does(1, "wait:pending wait:pending")
	w.does(0, "lead append insert")
	w.does(1, "wait:pending")
	w.does(0, "publish")
	w.does(1, "admit")
	w.does(0, "done")
	w.does(1, "lead switch append insert publish done")
	w.gets(0, sixteen(0), "take")
	w.does(0, "admit")
	w.gets(1, put("a", ""), "take")
	w.does(1, "admit") // 450 go
	w.is("P19.19: Pending", w.Status().Pending, 17858)
	// A Sync waits for none of that.
	w = upOver(t, small)
	w.gets(0, sixteen(0), "take")
	w.does(0, "admit")
	w.gets(1, syncOp, "take")
	w.does(1, "admit")
}

// TestStopAndSlow: what level 0 hinders.
func TestStopAndSlow(t *testing.T) {
	c := small
	c.L0Stop, c.SlowRate, c.Compactors = 3, 100, 2
	w := upOver(t, c)
	fill := func() {
		t.Helper()
		for _, key := range []string{"a", "b", "c", "d", "e"} {
			w.Step(api.Step{Kind: api.StepTick})
			w.writes(put(key, big))
		}
	}
	fill()
	w.is("slow tokens: none are taken below L0Slow", w.Status().Slow, 17408)
	w.flushes("f", "1")
	w.is("a table in level 0", len(w.Levels()[0]), 1)
	w.gets(0, put("f", ""), "take")
	w.gets(1, put("g", ""), "take")
	w.does(0, "admit")
	w.is("slow tokens", w.Status().Slow, 17408-450)
	w.does(1, "admit")
	w.is("slow tokens", w.Status().Slow, 17408-900)
	w.does(0, "lead append insert insert publish done")
	w.does(1, "done")
	// A Sync takes none.
	w.gets(0, syncOp, "take")
	w.does(0, "admit lead sync publish done")
	w.is("slow tokens", w.Status().Slow, 17408-900)
	// A batch that is too heavy for what is left waits till ticks have brought it.
	w.gets(0, sixteen(0), "take")
	w.does(0, "wait:slow wait:slow")
	for range 8 {
		w.Step(api.Step{Kind: api.StepTick})
	}
	w.is("slow tokens", w.Status().Slow, 17408-100)
	w.does(0, "wait:slow")
	w.Step(api.Step{Kind: api.StepTick})
	w.does(0, "admit")
	w.is("slow tokens", w.Status().Slow, 0)
	w.does(0, "lead append insert publish done")
	w.gets(0, put("g", ""), "take")
	w.does(0, "wait:slow")
	for range 10 {
		w.Step(api.Step{Kind: api.StepTick})
	}
	w.is("slow tokens", w.Status().Slow, 1000)
	w.does(0, "admit")
	w.is("slow tokens", w.Status().Slow, 550)
	w.does(0, "lead switch append insert publish done")
	w.works(2)
	w.is("two tables", len(w.Levels()[0]), 2)
	for range 300 {
		w.Step(api.Step{Kind: api.StepTick})
	}
	w.is("slow tokens: no more than SlowBurst", w.Status().Slow, 17408)
	w.writes(sixteen(0))
	for range 300 {
		w.Step(api.Step{Kind: api.StepTick})
	}
	w.flushes("h", "1")
	w.is("L0Stop tables", len(w.Levels()[0]), 3)
	// The stop is asked ahead of the slow tokens.
	slow := w.Status().Slow
	w.is("slow tokens", slow < 17408, true)
	w.gets(0, sixteen(0), "take")
	w.does(0, "wait:stop")
	w.gets(1, syncOp, "take")
	w.does(1, "wait:turn")
	// Nor is a memtable flushed then.
	w.does(2, "idle")
	// A compaction takes all of level 0 away: nothing hinders any more.
	w.works(3)
	slow = w.Status().Slow
	w.does(0, "admit")
	w.is("slow tokens: none are taken", w.Status().Slow, slow)
}

// TestDebt: a write waits while Debt is at least DebtStop.
func TestDebt(t *testing.T) {
	c := wide
	c.L0Trigger, c.L0Slow, c.L0Stop, c.MaxImm, c.Base, c.Levels = 1, 16, 16, 1, 4096, 3
	c.MaxGroup = 17408
	c.DebtStop = 4*memCap(c) + 1
	w := upOver(t, c)
	for w.Status().Debt < c.DebtStop {
		w.gets(0, sixteen(0), "take")
		w.does(0, "admit lead")
		for w.Do(0).Did != api.DidDone {
		}
		if w.Do(4).Did == api.DidClaim {
			for w.Do(4).Did != api.DidInstall {
			}
		}
	}
	x := w.Status()
	w.is("P19.19: Debt", x.Debt, x.Load-4096)
	w.gets(0, put("a", "1"), "take")
	w.does(0, "wait:debt wait:debt")
	w.c.DebtStop = x.Debt
	w.does(0, "wait:debt")
	// A Sync of another client stands behind it, and waits for its turn alone.
	w.gets(1, syncOp, "take")
	w.does(1, "wait:turn")
	// What is pending is asked first.
	w.c.MaxDebt = 400
	w.does(0, "wait:pending")
	w.c.MaxDebt = c.MaxDebt
	// The stop is asked behind it.
	w.c.L0Slow, w.c.L0Stop = 3, 3
	w.does(0, "wait:debt")
	w.c.DebtStop = x.Debt + 1
	w.does(0, "wait:stop")
	w.c.L0Slow, w.c.L0Stop = 16, 16
	w.does(0, "admit")
	// Compactions bring it down.
	w.gets(2, put("a", "1"), "take")
	w.does(1, "admit")
	w.c.DebtStop = x.Debt
	w.does(2, "wait:debt")
	w.works(6)
	w.does(2, "admit")
}

// TestGroup: who is led: those right behind the leader, as long as all weigh at most MaxGroup, or as much as the leader.
func TestGroup(t *testing.T) {
	c := wide
	c.MaxGroup = 1088
	for _, x := range []struct {
		ops  [4]api.Op
		want string // the leader's steps
		rest string // who is left in the queue
	}{
		{[4]api.Op{put("a", "1"), put("b", "1"), put("c", ""), syncOp}, "lead append insert insert publish done", "[2 3]"},
		{[4]api.Op{put("a", ""), syncOp, put("b", strings.Repeat("x", 188)), syncOp}, "lead append sync insert insert publish done", "[]"},
		{[4]api.Op{put("a", ""), syncOp, put("b", strings.Repeat("x", 189)), syncOp}, "lead append sync insert publish done", "[2 3]"},
		{[4]api.Op{sixteen(0), put("b", ""), put("c", ""), syncOp}, "lead append insert publish done", "[1 2 3]"},
		{[4]api.Op{sixteen(0), syncOp, put("c", ""), syncOp}, "lead append sync insert publish done", "[2 3]"},
		{[4]api.Op{syncOp, syncOp, synced(put()), syncOp}, "lead sync publish done", "[]"},
		{[4]api.Op{syncOp, put("a", "1"), sixteen(0), put("b", "1")}, "lead append sync insert publish done", "[2 3]"},
		{[4]api.Op{syncOp, sixteen(0), syncOp, syncOp}, "lead sync publish done", "[1 2 3]"},
		{[4]api.Op{put("a", ""), synced(put("b", "")), sixteen(0), put("c", "")}, "lead append sync insert insert publish done", "[2 3]"},
	} {
		w := upOver(t, c)
		for k, op := range x.ops {
			w.gets(k, op, "take")
			w.does(k, "admit")
		}
		w.does(1, "wait:lead")
		w.does(0, x.want)
		w.is(fmt.Sprintf("the queue behind %q", x.want), w.Status().Queue, x.rest)
		w.is("P19.19: Pending", w.Status().Pending, w.pending())
	}
}

// TestRecord: P19.8: how a group is laid into the log, and numbered.
func TestRecord(t *testing.T) {
	w := upOver(t, wide)
	w.gets(0, put("a", "1", "b", "2"), "take")
	w.gets(1, syncOp, "take")
	w.gets(2, put("c", "3"), "take")
	w.gets(3, put("b", "4", "d", "5", "b", "6"), "take")
	for k := range 4 {
		w.does(k, "admit")
	}
	w.is("P19.8: ahead of it", w.logged(1), "")
	w.does(0, "lead append")
	w.is("P19.8: one record", w.logged(1), "1[a b][c][b d b]")
	w.is("P19.19: nothing is published", w.Status().Seq, 0)
	w.does(0, "sync insert")
	w.is("P19.13: one batch is in", w.Status().Active, 902)
	w.does(0, "insert insert")
	w.is("P19.13: all are in", w.Status().Active, 6*451)
	w.is("P19.19: nothing is published", w.Status().Seq, 0)
	w.does(0, "publish done")
	w.is("P19.19: Seq", w.Status().Seq, 6)
	for k := 1; k < 4; k++ {
		w.does(k, "done idle")
	}
	w.is("what is read", w.reads(scan("", "", 9)), "done=a:1,b:6,c:3,d:5")
	// The next records lie behind it.
	w.writes(del("a"))
	w.gets(0, syncOp, "take")
	w.does(0, "admit lead sync publish done")
	w.is("P19.19: a Sync has no number", w.Status().Seq, 7)
	w.writes(put("e", big))
	w.is("P19.8: records", w.logged(1), "1[a b][c][b d b] 7[a] 8[e]")
	// A switch: the next log begins, and the numbers go on.
	w.is("full", w.Status().Active, 7*451+962-1)
	w.gets(0, put("f", "1"), "take")
	w.does(0, "admit lead switch")
	w.is("P19.8: the old log, and a new one", w.names(), "current l-1 l-3 m-2")
	w.is("P19.13: frozen", fmt.Sprint(w.Status().Frozen, w.Status().Active), "1 0")
	w.is("it takes no more", w.frozen[0].Frozen(), true)
	w.does(0, "append insert publish done")
	w.is("P19.8: records", w.logged(1), "1[a b][c][b d b] 7[a] 8[e]")
	w.is("P19.8: records of the next one", w.logged(3), "9[f]")
	for _, f := range w.Files() {
		if f.Name == nameOf("l", 1) && f.Sure != len(f.Data) {
			t.Errorf("a switch makes the old log sure: %d of %d", f.Sure, len(f.Data))
		}
	}
	w.is("a switch makes the new log's name sure", strings.Contains(listed(w.Image(0, nil)), nameOf("l", 3)), true)
}

// TestRoom: a full memtable, and MaxImm frozen ones; Syncs have no room step.
func TestRoom(t *testing.T) {
	w := upOver(t, small)
	w.fills("a", "b", "c")
	w.writes(put("d", strings.Repeat("x", 4095-3*962-450-450)))
	w.is("below MemBytes by an entry", w.Status().Active, 4095-450)
	w.writes(put("e", ""))
	w.is("below MemBytes by 1", w.Status().Active, 4095)
	w.gets(0, put("f", ""), "take")
	w.does(0, "admit lead append insert publish done")
	w.is("above MemBytes it is full", w.Status().Active, 4095+450)
	w.gets(0, put("g", ""), "take")
	w.does(0, "admit lead switch append insert publish done")
	w.fills("g", "h", "i")
	w.writes(put("j", strings.Repeat("x", 4096-3*962-450-450)))
	w.is("at MemBytes it is full", w.Status().Active, 4096)
	w.gets(0, put("k", "1"), "take")
	w.does(0, "admit lead wait:room wait:room")
	w.gets(1, syncOp, "take")
	w.does(1, "admit wait:lead")
	w.does(0, "wait:room")
	w.works(2)
	w.does(0, "switch append insert publish done")
	w.does(1, "lead sync publish done")
	// A group of Syncs alone goes on over a full memtable.
	w.fills("l", "m", "n", "o")
	w.is("full", fmt.Sprint(w.Status().Active >= 4096, w.Status().Frozen), "true 1")
	w.gets(0, syncOp, "take")
	w.does(0, "admit lead sync publish done")
	w.gets(0, put("p", "1"), "take")
	w.does(0, "admit lead wait:room")
}

// TestTold: P19.9.
func TestTold(t *testing.T) {
	w := upOver(t, wide)
	w.gets(0, put("a", "1"), "take")
	w.gets(1, put("b", "1"), "take")
	w.gets(2, put("c", "1"), "take")
	w.does(0, "admit")
	w.does(1, "admit")
	w.does(0, "lead append insert insert publish")
	w.gets(0, put("z", "1"), "nothing")
	w.gets(1, get("a"), "nothing")
	w.fails(0, 1, 0)
	w.does(2, "admit lead readonly!31")
	w.gets(2, get("a"), "nothing")
	w.is("P19.19: Pending", w.Status().Pending, 0)
	w.does(1, "done idle")
	w.does(0, "done idle")
	w.does(2, "done!193 idle")
}

// TestGroupFails: the calls of a leader, each of them failing; what is left of it.
func TestGroupFails(t *testing.T) {
	for _, x := range []struct {
		after int
		want  string
		names string
	}{
		{0, "readonly!31", "current l-1 m-2"},            // Sync(log)
		{1, "readonly!31", "current l-1 m-2"},            // Create
		{2, "readonly!31", "current l-1 l-3 m-2"},        // SyncDir
		{3, "switch readonly!31", "current l-1 l-3 m-2"}, // Append
		{4, "switch append readonly!31", "current l-1 l-3 m-2"},
	} {
		w := upOver(t, wide)
		w.fills("a", "b", "c", "d", "e")
		w.gets(0, put("f", "1"), "take")
		w.gets(1, synced(put("g", "1")), "take")
		w.gets(2, syncOp, "take")
		w.gets(3, put("h", "1"), "take")
		for k := range 3 {
			w.does(k, "admit")
		}
		w.does(0, "lead")
		w.fails(x.after, 1, 9999)
		before := w.Status()
		w.does(0, x.want)
		after := w.Status()
		w.is("P19.7: the files", w.names(), x.names)
		w.is("the group is settled", fmt.Sprint(after.Queue, after.Pending, after.Line, after.ReadOnly), "[] 0 [3] true")
		w.is("nothing was inserted", fmt.Sprint(after.Seq, after.Load), fmt.Sprint(before.Seq, before.Load))
		w.is("frozen", after.Frozen, either(strings.HasPrefix(x.want, "switch"), "1", "0"))
		for k := range 3 {
			w.does(k, "done!193 idle")
		}
		w.does(3, "done!192 idle")
		w.is("nothing is read of it", w.reads(scan("f", "", 9)), "done")
		w.falls(99)
		w.goesUp()
		w.is("what wasn't sure is gone", w.reads(scan("f", "", 9)), "done")
	}
	// A Sync's group.
	w := upOver(t, wide)
	w.gets(0, syncOp, "take")
	w.does(0, "admit lead")
	w.fails(0, 1, 0)
	w.does(0, "readonly!31 done!193")
	// A full disk is a fault.
	s, _ := New(wide, 300, nil, nil)
	w = hand{s, t}
	w.goesUp()
	w.gets(0, put("a", big), "take")
	w.does(0, "admit lead readonly!32 done!193")
	w.is("P19.7: nothing was laid", w.logged(1), "")
}

// TestGroupFalls: a fall at a leader's step takes all of the life away.
func TestGroupFalls(t *testing.T) {
	for unit := 1; unit < 40; unit++ {
		w := upOver(t, wide)
		w.fills("a", "b", "c", "d", "e")
		w.gets(0, synced(put("f", "1")), "take")
		w.does(0, "admit lead")
		w.Step(api.Step{Kind: api.StepArm, A: unit})
		r := w.Do(0)
		for r.Did == api.DidSwitch || r.Did == api.DidAppend || r.Did == api.DidSync || r.Did == api.DidInsert || r.Did == api.DidPublish {
			r = w.Do(0)
		}
		sure := r.Did == api.DidDone
		if !sure {
			w.is("P19.7: a fall", text(r), "fall!30")
			w.is("P19.19: down", w.Status(), api.Status{})
		}
		w.falls(99)
		w.goesUp()
		// What was told OK, and asked for sync, is there.
		w.is("what is read", w.reads(get("f")), either(sure, `done=found"1"`, "done"))
	}
}

// TestReadOnly: who is told what, in read-only.
func TestReadOnly(t *testing.T) {
	// breaks makes the store read-only by client 3's Release, which is answered as if nothing had failed.
	begin := func() (hand, func()) {
		w := upOver(t, wide)
		w.fills("a", "b", "c", "d", "e")
		w.gets(3, snapOp, "take")
		w.does(3, "done=snap1")
		w.flushes("f", "1")
		w.gets(3, snapOp, "take")
		w.does(3, "done=snap2")
		w.c.L0Trigger = 1
		w.works(6)
		w.c.L0Trigger = wide.L0Trigger
		w.is("the snapshot has a table", w.names(), "current l-3 m-2 t-4 t-5 t-6")
		return w, func() {
			t.Helper()
			names := w.names()
			w.gets(3, release(2), "take")
			w.fails(0, 1, 0)
			w.does(3, "done idle")
			w.is("read-only", w.Status().ReadOnly, true)
			w.is("it was tried once, and is still there", w.names(), names)
		}
	}
	// In the line, in the queue, in a group that isn't appended, the leader last.
	w, breaks := begin()
	for k := range 3 {
		w.gets(k, put("x", "1"), "take")
	}
	w.does(0, "admit")
	w.does(1, "admit")
	w.does(0, "lead")
	breaks()
	w.does(2, "done!192 idle")
	w.does(1, "done!192 idle")
	w.is("Pending", w.Status().Pending, 451)
	// It is no member any more: what becomes of the group is not its business.
	w.gets(1, get("x"), "take")
	w.gets(2, put("y", "1"), "take")
	w.does(0, "done!192 idle")
	w.is("the lines", fmt.Sprint(w.Status().Line, w.Status().Queue, w.Status().Pending), "[2] [] 0")
	w.does(1, "pin done idle")
	w.does(2, "done!192 idle")
	w.gets(1, syncOp, "take")
	w.does(1, "done!192")
	w.gets(1, synced(put()), "take")
	w.does(1, "done!192")
	w.gets(1, put(), "done")
	w.is("nothing is read of it", w.reads(scan("w", "", 9)), "done")

	// The leader first: its whole group is settled.
	w, breaks = begin()
	for k := range 3 {
		w.gets(k, put("x", "1"), "take")
		w.does(k, "admit")
	}
	w.does(0, "lead")
	breaks()
	w.does(0, "done!192 idle")
	w.is("the lines", fmt.Sprint(w.Status().Line, w.Status().Queue, w.Status().Pending), "[] [] 0")
	w.gets(1, put("y", "1"), "nothing")
	w.does(1, "done!192 idle")
	w.does(2, "done!192 idle")

	// An appended group is published; who stands behind it is told.
	w, breaks = begin()
	w.c.MaxGroup = 1088
	for k := range 3 {
		w.gets(k, put(fmt.Sprintf("x%d", k), "1"), "take")
		w.does(k, "admit")
	}
	w.does(0, "lead append")
	breaks()
	w.does(1, "wait:lead")
	w.does(2, "done!192 idle")
	w.does(0, "insert")
	w.does(1, "wait:lead")
	w.does(0, "insert publish")
	w.does(1, "done idle")
	w.does(0, "done idle")
	w.is("what is read", w.reads(scan("x", "", 9)), "done=x0:1,x1:1")

	// An appended group that wants a sync isn't.
	w, breaks = begin()
	w.gets(0, put("x", "1"), "take")
	w.gets(1, synced(put("y", "1")), "take")
	w.does(0, "admit")
	w.does(1, "admit")
	w.does(0, "lead append")
	breaks()
	w.does(1, "wait:lead")
	w.does(0, "done!192 idle")
	w.is("the lines", fmt.Sprint(w.Status().Line, w.Status().Queue, w.Status().Pending), "[] [] 0")
	w.does(1, "done!192 idle")
	w.is("nothing is read of it", w.reads(scan("w", "", 9)), "done")

	// Behind its sync it is.
	w, breaks = begin()
	w.gets(0, synced(put("x", "1")), "take")
	w.does(0, "admit lead append sync")
	breaks()
	w.does(0, "insert publish done")
	w.is("what is read", w.reads(get("x")), `done=found"1"`)

	// A group of Syncs has no record: it isn't published, not even behind its sync.
	for _, words := range []string{"admit lead", "admit lead sync"} {
		w, breaks = begin()
		w.gets(0, syncOp, "take")
		w.does(0, words)
		breaks()
		w.does(0, "done!192 idle")
	}

	// Workers have no job any more, and get none; the token line is left.
	w, breaks = begin()
	w.fills("a", "b", "c", "d", "e")
	w.flushes("g", "1")
	w.fills("a", "b", "c", "d", "e")
	w.writes(put("g", "1"))
	w.does(4, "claim fill")
	w.c.L0Trigger = 1
	w.does(7, "claim fill")
	for w.Do(7).Did != api.DidMake {
	}
	w.tokens.Take(99, 1<<30)
	w.does(7, "wait:tokens")
	w.is("jobs, token line", fmt.Sprint(len(w.Status().Jobs), w.Status().TokenLine), "2 [7]")
	breaks()
	w.is("jobs, token line", fmt.Sprint(len(w.Status().Jobs), w.Status().TokenLine), "0 []")
	for k := 4; k < 9; k++ {
		w.does(k, "idle idle")
	}
	w.falls(99)
	w.goesUp()
	w.is("the next life isn't read-only", w.Status().ReadOnly, false)
}
