package store

import (
	"fmt"
	"strings"
	"testing"

	"scree/api"
	"scree/log"
	"scree/manifest"
	"scree/table"
)

// edits tells the edits of the manifest that current names.
func (w hand) edits() []api.Edit {
	w.t.Helper()
	name, err := manifest.Points(w.bytesOf("current"))
	if err != api.OK {
		w.t.Fatalf("current: error %d", err)
	}
	recs, _, err := log.Read(w.bytesOf(name))
	if err != api.OK {
		w.t.Fatalf("the manifest: error %d", err)
	}
	l, err := manifest.Get(recs)
	if err != api.OK || len(l) == 0 {
		w.t.Fatalf("the manifest: %d edits, error %d", len(l), err)
	}
	return l
}

// edit tells the last one: `log 1 next 5 seq 6 out 0:3 1:4 in 1:5:a-c pointers - c -`.
func (w hand) edit() string {
	w.t.Helper()
	l := w.edits()
	e := l[len(l)-1]
	b := fmt.Sprintf("log %d next %d seq %d", e.Log, e.Next, e.Seq)
	for i, x := range e.Out {
		b += either(i == 0, " out", "") + fmt.Sprintf(" %d:%d", x.Level, x.Number)
	}
	for i, x := range e.In {
		b += either(i == 0, " in", "") + fmt.Sprintf(" %d:%d:%s-%s", x.Level, x.Table.Number, x.Table.Least, x.Table.Greatest)
	}
	b += " pointers"
	for _, p := range e.Pointers {
		b += " " + either(p == "", "-", p)
	}
	return b
}

// entriesOf tells a table's entries: `a1 b2-` (deleted).
func (w hand) entriesOf(number uint64) string {
	w.t.Helper()
	t, err := table.Open(w.bytesOf(nameOf("t", number)))
	if err != api.OK {
		w.t.Fatalf("the table %d: error %d", number, err)
	}
	var l []string
	for e := range t.From("") {
		l = append(l, fmt.Sprintf("%s%d%s", e.Key, e.Seq, either(e.Del, "-", "")))
	}
	return strings.Join(l, " ")
}

// many: entries of the same value, one a key.
func many(val string, seq uint64, keys ...string) []api.Entry {
	var l []api.Entry
	for _, key := range keys {
		l = append(l, entry(key, seq, val))
	}
	return l
}

// TestLoad: P19.13: what counts in Load, and Debt above the limits.
func TestLoad(t *testing.T) {
	c := wide
	c.Levels, c.Base, c.Mult = 4, 4096, 2 // limits 4096 and 8192
	w := upOver(t, c, foreign(t, c, 9,
		placed{0, 3, many("", 1, "a", "b")},
		placed{0, 4, many("", 2, "a")},
		placed{1, 5, many(big, 1, "a")},
		placed{2, 6, many("", 1, "a")},
		placed{3, 7, many(big, 1, "a", "b", "c", "d", "e", "f", "g", "h", "i", "j", "k", "l", "m", "n", "o", "p")},
	)...)
	base := 3*450 + 962 + 450
	w.is("P19.13: the last level doesn't count", fmt.Sprint(w.Status().Load, w.Status().Debt), fmt.Sprint(base, 0))
	w.gets(0, put("a", "", "b", ""), "take")
	w.does(0, "admit lead append")
	w.is("P19.13: what isn't inserted doesn't count", w.Status().Load, base)
	w.does(0, "insert")
	w.is("P19.13: what is inserted does", w.Status().Load, base+900)
	w.does(0, "publish done")
	w.fills("a", "b", "c", "d", "e", "f", "g", "h", "i", "j")
	base += 900 + 10*962
	w.is("P19.13: frozen ones do", fmt.Sprint(w.Status().Load, w.Status().Debt, w.Status().Frozen), fmt.Sprint(base, base-4096-8192, 2))
	w.works(4)
	// Of the two entries of a and b the flush leaves one each.
	w.is("P19.13: a flush", w.Status().Load, base-900)
}

// TestFlushers: who claims which memtable, and that they are installed in their order.
func TestFlushers(t *testing.T) {
	w := upOver(t, wide)
	for range 3 {
		w.fills("a", "b", "c", "d", "e")
	}
	w.writes(put("f", "1"))
	w.is("frozen", w.Status().Frozen, 3)
	w.does(5, "claim") // the oldest
	w.does(4, "claim")
	w.is("P19.19: jobs", w.Status().Jobs, []api.Job{{Level: -1}, {Level: -1}})
	for w.Do(4).Did != api.DidSeal {
	}
	w.does(4, "wait:turn wait:turn")
	w.is("P19.19: it has its job still", len(w.Status().Jobs), 2)
	for w.Do(5).Did != api.DidSeal {
	}
	w.does(4, "wait:turn")
	w.does(5, "install")
	w.does(4, "install claim")
	w.does(5, "idle idle") // no memtable is left that no flusher has
	w.is("level 0 has them in the order of the memtables", w.tables(), "7:a-e 6:a-e///")
	w.is("which is that of their numbers", w.entriesOf(7)+"/"+w.entriesOf(6), "a1 b2 c3 d4 e5/a6 b7 c8 d9 e10")
	w.is("P19.15: their logs are gone", w.names(), "current l-4 l-5 m-2 t-6 t-7")
	w.is("P19.19: frozen", w.Status().Frozen, 1)
}

// TestFlushStop: while level 0 has L0Stop tables no flush is begun.
func TestFlushStop(t *testing.T) {
	c := wide
	c.L0Trigger, c.L0Slow, c.L0Stop = 3, 3, 3
	w := upOver(t, c)
	for range 5 {
		w.fills("a", "b", "c", "d", "e")
	}
	w.is("frozen", w.Status().Frozen, 4)
	w.works(4)
	w.works(4)
	w.does(4, "claim")
	w.does(5, "claim") // two tables are there
	for w.Do(4).Did != api.DidInstall {
	}
	for w.Do(5).Did != api.DidInstall {
	}
	w.is("P22.7: L0Stop - 1 and one a flusher", len(w.Levels()[0]), 4)
	w.does(4, "idle")
	w.c.L0Stop = 5
	w.writes(put("f", "1"))
	w.c.L0Stop = 3
	w.does(4, "wait:stop wait:stop")
	w.does(5, "wait:stop")
	w.works(6)
	w.does(5, "claim")
}

// TestFlushEdit: P19.15: what a flush tells, and lays behind what the manifest has.
func TestFlushEdit(t *testing.T) {
	w := upOver(t, wide)
	w.is("the opener's", w.edit(), "log 1 next 3 seq 0 pointers - - - -")
	for range 2 {
		w.fills("a", "b", "c", "d", "e")
	}
	w.writes(put("f", "1"))
	w.works(4)
	// Logs 3 and 4 were made, the table is 5; the other frozen memtable's log is 3.
	w.is("P19.15: a flush", w.edit(), "log 3 next 6 seq 5 in 0:5:a-e pointers - - - -")
	w.is("P19.15: its log is deleted", w.names(), "current l-3 l-4 m-2 t-5")
	w.works(5)
	w.is("P19.15: the last frozen one", w.edit(), "log 4 next 7 seq 10 in 0:6:a-e pointers - - - -")
	w.is("P19.15: one edit behind the other", len(w.edits()), 3)
	x := w.Files()
	for _, f := range x {
		if f.Name[0] == 'm' && f.Sure != len(f.Data) {
			t.Errorf("P19.15: the manifest isn't sure")
		}
	}
	// A compaction tells the roots' Seq, though more is published.
	w.writes(put("g", "1"))
	w.c.L0Trigger = 1
	w.works(6)
	w.is("P19.19: Seq", w.Status().Seq, 12)
	w.is("P19.15: a compaction", w.edit(), "log 4 next 9 seq 10 out 0:5 0:6 in 1:7:a-c 1:8:d-e pointers - - - -")
	w.is("its inputs are deleted", w.names(), "current l-4 m-2 t-7 t-8")
	// With a frozen memtable it tells that one's log.
	w.fills("a", "b", "c", "d", "e")
	w.is("frozen", w.Status().Frozen, 1)
	w.c.Base, w.c.Fan = 4096, 9
	w.does(6, "claim")
	w.is("P19.19: a move", w.Status().Jobs[0].Move, true)
	w.does(6, "install")
	w.is("P19.15: a move", w.edit(), "log 4 next 10 seq 10 out 1:7 in 2:7:a-c pointers - c - -")
	w.is("a move touches no table", w.names(), "current l-4 l-9 m-2 t-7 t-8")
	w.is("the levels", w.tables(), "/8:d-e/7:a-c/")
}

// cutFiles: level 1 is above its limit; its one table overlaps three of level 2.
func cutFiles(t *testing.T, c api.Config) []api.File {
	t.Helper()
	return foreign(t, c, 9,
		placed{1, 3, many(big, 9, "a", "c", "e", "g", "i")},
		placed{2, 4, many("", 1, "b")},
		placed{2, 5, many("", 1, "d")},
		placed{2, 6, many("", 1, "f")},
		placed{3, 7, many("", 1, "a")},
	)
}

// TestCut: P19.15: the edit of a compaction with a cut.
func TestCut(t *testing.T) {
	c := wide
	c.Base, c.Fan = 4096, 1
	w := upOver(t, c, cutFiles(t, c)...)
	w.does(6, "claim")
	j := w.Status().Jobs[0]
	w.is("P19.19: the job", fmt.Sprintln(j.Level, j.Upper[0].Number, j.Lower[0].Number, len(j.Upper)+len(j.Lower), j.Cut, j.Move), "1 3 4 2 d false\n")
	w.does(7, "wait:locks")
	for w.Do(6).Did != api.DidInstall {
	}
	w.is("P19.15: a cut", w.edit(), "log 8 next 12 seq 9 out 1:3 2:4 in 2:10:a-c 1:11:e-i pointers - c - -")
	w.is("the levels", w.tables(), "/11:e-i/10:a-c 5:d-d 6:f-f/7:a-a")
	w.is("P19.19: nothing is left to do", w.Status().Jobs == nil, true)
	w.does(6, "idle")
	w.is("the files", w.names(), "current l-8 m-9 t-5 t-6 t-7 t-10 t-11")
	// The pointer holds: the next job of the level begins behind it.
	w.c.Base = 1
	w.does(7, "claim")
	w.is("P19.19: the next job", w.Status().Jobs[0].Upper[0].Number, 11)
}

// TestPointers: P19.15: the pointer of level 0 stays as it is, and those of other levels than the job's.
func TestPointers(t *testing.T) {
	c := wide
	c.L0Trigger = 2
	files := pointed(t, c, 9, []string{"o", "p", "q", "r"},
		placed{0, 3, many("", 2, "a", "c")}, placed{0, 4, many("", 3, "b", "c")}, placed{1, 5, many("", 1, "c", "d")}, placed{1, 6, many("", 1, "e")})
	w := upOver(t, c, files...)
	w.works(6)
	w.is("P19.15: upper ones first", w.edit(), "log 7 next 10 seq 9 out 0:3 0:4 1:5 in 1:9:a-d pointers o p q r")
	w.is("the newest stay", w.entriesOf(9), "a2 b3 c3 d1")
	w.is("the levels", w.tables(), "/9:a-d 6:e-e//")
	c.Base = 4096
	w = upOver(t, c, pointed(t, c, 9, []string{"o", "p", "q", "r"}, placed{1, 3, many(big, 9, "a", "c", "e", "g", "i")}, placed{2, 4, many("", 9, "b", "c")})...)
	w.works(6)
	w.is("P19.15: of level 1", w.edit(), "log 5 next 9 seq 9 out 1:3 2:4 in 2:7:a-c 2:8:e-i pointers o i q r")
}

// TestBelow: P19.14: which deletes go: those below which no hull has the key, in the version that was current at the claim.
func TestBelow(t *testing.T) {
	c := wide
	c.Base, c.Mult, c.L0Trigger = 4096, 2, 1
	c.FileBytes = 2048
	w := upOver(t, c, foreign(t, c, 9,
		placed{0, 3, []api.Entry{gone("a0", 9), entry("b", 9, ""), gone("c", 9), gone("zz", 9)}},
		placed{1, 4, []api.Entry{entry("zz", 1, "")}},
		placed{2, 5, many(big, 1, "a0", "a1", "a2", "z0", "z1", "z2", "z3", "z4", "z5", "z6")},
	)...)
	w.does(7, "claim") // level 2 is farther above its limit
	w.does(6, "claim")
	w.is("P19.19: jobs", fmt.Sprint(w.Status().Jobs[0].Level, w.Status().Jobs[1].Level), "0 2")
	for w.Do(7).Did != api.DidInstall {
	}
	w.is("no hull has c any more", w.tables(), "3:a0-zz/4:zz-zz//8:a0-a2 9:z0-z2 10:z3-z5 11:z6-z6")
	for w.Do(6).Did != api.DidInstall {
	}
	// The next level's own tables are inputs: what stands there isn't below.
	w.is("P19.14: the deletes that stay", w.entriesOf(12), "a09- b9 c9-")
	w.is("what is read", w.reads(scan("", "z0", 9)), "done=a1:"+big+",a2:"+big+",b:")
	// Claimed now, none of them would.
	w = upOver(t, c, foreign(t, c, 9,
		placed{0, 3, []api.Entry{gone("a0", 9), entry("b", 9, ""), gone("c", 9), gone("zz", 9)}},
		placed{1, 4, []api.Entry{entry("zz", 1, "")}},
		placed{3, 5, many("", 1, "a0", "a1")},
		placed{3, 6, many("", 1, "d", "e")},
	)...)
	w.works(6)
	w.is("P19.14: the deletes that stay", w.entriesOf(9), "a09- b9")
}

// TestFlushKeepsDeletes: a flush keeps every delete.
func TestFlushKeepsDeletes(t *testing.T) {
	w := upOver(t, wide)
	w.writes(put("a", "1"))
	w.writes(del("a"))
	w.writes(del("b"))
	w.fills("c", "d", "e")
	w.flushes("f", "1")
	w.is("the table", w.entriesOf(4), "a2- b3- c4 d5 e6")
}

// TestTokens: compactors pay for what they lay, one after the other; flushers don't.
func TestTokens(t *testing.T) {
	c := wide
	c.Base, c.Mult, c.L0Trigger = 4096, 2, 1
	c.Rate, c.Burst = 10, 1088
	w := upOver(t, c, foreign(t, c, 9,
		placed{0, 3, many("", 9, "a")},
		placed{2, 5, many(big, 1, "a", "b", "c", "d", "e", "f", "g", "h", "i", "j")},
	)...)
	tick := func(n int) {
		for range n {
			w.Step(api.Step{Kind: api.StepTick})
		}
	}
	w.does(7, "claim")
	w.does(6, "claim fill make")
	w.is("jobs", fmt.Sprint(w.Status().Jobs[0].Level, w.Status().Jobs[1].Level), "0 2")
	for w.Do(7).Did != api.DidMake {
	}
	w.does(7, "write=1088")
	w.is("P19.14: the tokens", w.Status().Tokens, 0)
	w.does(7, "wait:tokens wait:tokens")
	w.does(6, "wait:tokens wait:tokens")
	w.is("P19.19: the token line", w.Status().TokenLine, []int{7, 6})
	tick(1)
	w.does(6, "wait:tokens")
	w.is("P19.14: waiting costs nothing", w.Status().Tokens, 10)
	before := w.Status().Tokens
	r := w.Do(7)
	w.is("the first of the line", r.Did, api.DidWrite)
	w.is("P19.14: what was laid", w.Status().Tokens, before-r.Wrote)
	w.is("P19.19: it has left the line", w.Status().TokenLine, []int{6})
	w.does(6, "wait:tokens")
	// A flusher doesn't ask.
	w.fills("a", "b", "c", "d", "e")
	w.writes(put("f", "1"))
	tokens := w.Status().Tokens
	w.is("no token is there", tokens < 0, true)
	w.does(4, "claim fill fill make write=1088")
	w.is("P19.14: a flusher's write", w.Status().Tokens, tokens)
	tick(1000)
	w.is("no more than Burst", w.Status().Tokens, 1088)
	for _, want := range []string{"seal", "fill", "make", "wait:tokens"} { // 6 is the first of the line
		for r = w.Do(7); r.Did == api.DidFill && want != "fill"; {
			r = w.Do(7)
		}
		w.is("a step of the other one", word(r), want)
	}
	w.does(6, "write seal install")
	w.is("P19.19: the token line", w.Status().TokenLine, []int{7})
	w.does(7, "write=1088")
	w.is("the tokens", w.Status().Tokens, 1088-w.Levels()[1][0].Bytes-1088)
}

// TestLocks: what a compactor answers that has nothing to do, and one that has to wait.
func TestLocks(t *testing.T) {
	c := wide
	c.L0Trigger = 2
	w := upOver(t, c, foreign(t, c, 9, placed{0, 3, many("", 9, "a")})...)
	w.does(6, "idle")
	w.c.L0Trigger = 1
	w.does(6, "claim")
	w.does(7, "wait:locks wait:locks")
	for w.Do(6).Did != api.DidInstall {
	}
	w.does(7, "idle")
	w.does(6, "idle")
}

// installs: a store whose worker's next step is an install: a flush of a to e beside a level 0, or a compaction of it.
func installs(t *testing.T, flush bool) (hand, int) {
	t.Helper()
	w := upOver(t, wide)
	w.fills("a", "b", "c", "d", "e")
	w.flushes("f", "1")
	w.fills("a", "b", "c", "d")
	k := 5
	if flush {
		w.writes(put("g", "1"))
	} else {
		w.c.L0Trigger, k = 1, 7
	}
	w.writes(syncOp)
	w.does(k, "claim")
	for w.Do(k).Did != api.DidSeal {
	}
	for !flush && w.machines[k].at != compacted {
		w.Do(k)
	}
	return w, k
}

// TestInstallFails: P19.7 and P19.16: a fault at each call of an install.
func TestInstallFails(t *testing.T) {
	for _, x := range []struct {
		flush  bool
		after  int
		tables string
		names  string
		frozen int
	}{
		{true, 0, "4:a-e///", "current l-3 l-5 m-2 t-4 t-6", 1},       // Append
		{true, 1, "4:a-e///", "current l-3 l-5 m-2 t-4 t-6", 1},       // Sync
		{true, 2, "4:a-e 6:a-f///", "current l-3 l-5 m-2 t-4 t-6", 0}, // Delete
		{false, 0, "4:a-e///", "current l-3 m-2 t-4 t-5 t-6", 0},
		{false, 1, "4:a-e///", "current l-3 m-2 t-4 t-5 t-6", 0},
		{false, 2, "/5:a-c 6:d-e//", "current l-3 m-2 t-4 t-5 t-6", 0},
	} {
		for _, part := range []int{0, 9, 1 << 20} {
			w, k := installs(t, x.flush)
			seen := w.reads(scan("", "", 99))
			w.fails(x.after, 1, part)
			w.does(k, "readonly!31 idle")
			w.is("P19.16: the levels", w.tables(), x.tables)
			w.is("P19.16: the files", w.names(), x.names)
			s := w.Status()
			w.is("P19.16: the status", fmt.Sprint(s.Up, s.ReadOnly, s.Frozen, len(s.Jobs)), fmt.Sprint(true, true, x.frozen, 0))
			w.is("P22.1: what is read", w.reads(scan("", "", 99)), seen)
			w.falls(part, part)
			w.goesUp()
			w.is("P22.2: what is read then", w.reads(scan("", "", 99)), seen)
		}
	}
	// Of several tables those behind the one that fails aren't tried.
	w := upOver(t, roomy, shelves(t)...)
	w.c.L0Trigger = 1
	w.does(6, "claim")
	for w.Do(6).Did != api.DidSeal {
	}
	w.fails(3, 1, 0)
	w.does(6, "readonly!31")
	w.is("the least number first, each tried once", w.names(), "current l-9 m-10 t-4 t-5 t-6 t-7 t-8 t-11")
	w.is("P19.16: the levels", w.tables(), "/11:a-g 7:m-m//8:c-z")
}

// TestInstallFalls: a fall at each unit of an install.
func TestInstallFalls(t *testing.T) {
	for _, flush := range []bool{true, false} {
		fell := 0
		for unit := 1; ; unit++ {
			w, k := installs(t, flush)
			seen := w.reads(scan("", "", 99))
			w.Step(api.Step{Kind: api.StepArm, A: unit})
			r := w.Do(k)
			if r.Did == api.DidInstall {
				break
			}
			fell++
			w.is("P19.7: a fall", text(r), "fall!30")
			w.is("P19.19: down", w.Status(), api.Status{})
			w.falls(unit%3, unit%7*9)
			w.goesUp()
			w.is("P22.2: what is read then", w.reads(scan("", "", 99)), seen)
		}
		if fell < 30 {
			t.Errorf("the cases are too few to tell anything: %d", fell)
		}
	}
}

// TestWorkFails: a fault at a worker's other calls: it has no job any more, and the tokens stay as they are.
func TestWorkFails(t *testing.T) {
	for _, k := range []int{4, 6} {
		for _, at := range []int{api.DidMake, api.DidWrite, api.DidSeal} {
			for after := range either(at == api.DidSeal, 2, 1) {
				w := upOver(t, wide)
				w.fills("a", "b", "c", "d", "e")
				w.flushes("f", "1")
				w.fills("a", "b", "c", "d")
				w.writes(put("g", "1"))
				w.c.L0Trigger = 1
				w.does(10-k, "claim") // the other kind
				w.does(k, "claim")
				for w.machines[k].at != map[int]place{api.DidMake: making, api.DidWrite: either(k == 4, writing, pacing), api.DidSeal: sealing}[at] {
					w.Do(k)
				}
				before, files := w.Status(), len(w.Files())
				w.fails(after, 1, 5)
				w.does(k, "readonly!31 idle")
				w.does(10-k, "idle")
				x := w.Status()
				w.is("nobody has a job", fmt.Sprint(len(before.Jobs), len(x.Jobs), x.TokenLine), "2 0 []")
				w.is("the rest is as it was", fmt.Sprint(x.Tokens, x.Frozen, x.Load), fmt.Sprint(before.Tokens, before.Frozen, before.Load))
				w.is("files stay", len(w.Files()), files)
				w.is("the levels", w.tables(), "4:a-e///")
			}
		}
	}
}

// due tells how many bytes the manifest has beyond twice those of a whole version of what it says.
func (w hand) due() int {
	w.t.Helper()
	name, _ := manifest.Points(w.bytesOf("current"))
	set, roots, err := manifest.Read(w.bytesOf(name), w.c.Levels)
	if err != api.OK {
		w.t.Fatalf("the manifest: error %d", err)
	}
	return len(w.bytesOf(name)) - 2*len(manifest.Bytes(0, manifest.Whole(set, roots)))
}

// TestRoll: P19.17.
func TestRoll(t *testing.T) {
	for _, flush := range []bool{true, false} {
		w, k := installs(t, flush)
		seen := w.reads(scan("", "", 99))
		before, levels, names := w.Status(), w.tables(), w.names()
		// One byte too few: the edit goes on. (A like store shows it.)
		other, _ := installs(t, flush)
		other.c.MaxManifest = other.due() + 1
		other.does(k, "install")
		w.c.MaxManifest = w.due()
		// What an earlier roll may have left is in no way.
		w.d.Create("new")
		w.d.Append("new", []byte("old"))
		w.does(k, "roll")
		w.c.MaxManifest = wide.MaxManifest
		w.is("P19.17: the files", w.names(), strings.Replace(names, "m-2", "m-7", 1))
		w.is("P19.17: current", string(w.bytesOf("current")), string(manifest.Current(nameOf("m", 7))))
		w.is("P19.17: one whole version", len(w.edits()), 1)
		w.is("P19.17: what it says", w.edit(), "log 3 next 8 seq 5 in 0:4:a-e pointers - - - -")
		w.is("P19.17: nothing else has changed", fmt.Sprint(w.Status(), w.tables()), fmt.Sprint(before, levels))
		for _, f := range w.Files() {
			if (f.Name[0] == 'm' || f.Name == "current") && f.Sure != len(f.Data) {
				t.Errorf("P19.17: %s isn't sure", f.Name)
			}
		}
		w.is("P19.17: a fall leaves it", strings.Contains(listed(w.Image(0, nil)), nameOf("m", 7)), true)
		// Then comes the edit, laid behind the whole version.
		w.does(k, "install idle")
		w.is("P19.17: and then the edit", len(w.edits()), 2)
		w.is("P19.15: its Next", strings.Contains(w.edit(), " next 8 "), true)
		w.is("what is read", w.reads(scan("", "", 99)), seen)
		w.falls(0)
		w.goesUp()
		w.is("what is read in the next life", w.reads(scan("", "", 99)), seen)
	}
	// A move's, too.
	c := wide
	c.Base, c.Fan = 4096, 9
	w := upOver(t, c, foreign(t, c, 9, placed{1, 3, many(big, 9, "a", "c", "e", "g", "i")})...)
	w.does(6, "claim")
	w.c.MaxManifest = w.due()
	w.does(6, "roll")
	w.c.MaxManifest = c.MaxManifest
	w.does(6, "install")
	w.is("the levels", w.tables(), "//3:a-i/")
}

// TestRollFails: a fault at each call of a roll: the worker has no job any more, and whatever is left can come up.
func TestRollFails(t *testing.T) {
	for _, flush := range []bool{true, false} {
		for after := range 11 {
			w, k := installs(t, flush)
			seen, levels := w.reads(scan("", "", 99)), w.tables()
			w.c.MaxManifest = w.due()
			names := w.names()
			w.fails(after, 1, 3)
			if after == 10 {
				w.does(k, "roll")
				break
			}
			w.does(k, "readonly!31 idle")
			x := w.Status()
			w.is("the status", fmt.Sprint(x.ReadOnly, len(x.Jobs), x.Frozen), fmt.Sprint("true 0 ", either(flush, "1", "0")))
			w.is("the levels", w.tables(), levels)
			switch {
			case after == 0: // Create(the next manifest)
			case after < 5: // Append, Sync, SyncDir; Create(new)
				names = strings.Replace(names, "m-2", "m-2 m-7", 1)
			case after < 8: // Append, Sync, Rename
				names = strings.Replace(names, "m-2", "m-2 m-7 new", 1)
			default: // SyncDir; Delete(the old manifest)
				names = strings.Replace(names, "m-2", "m-2 m-7", 1)
			}
			w.is(fmt.Sprint("the files behind call ", after), w.names(), names)
			w.is("what is read", w.reads(scan("", "", 99)), seen)
			w.falls(after, 99)
			w.goesUp()
			w.is("P22.2: what is read then", w.reads(scan("", "", 99)), seen)
		}
	}
}

// TestNumbers: one counter numbers the files, whatever they are; a life begins above all of them.
func TestNumbers(t *testing.T) {
	w := upOver(t, wide, file("t-000000000040", nil), file("x-000000000090", nil), file("t-50", nil))
	w.is("above every number of such a name", w.names(), "current l-41 m-42 t-50 x-000000000090")
	w.fills("a", "b", "c", "d", "e")
	w.writes(put("f", "1"))
	w.is("a log", w.names(), "current l-41 l-43 m-42 t-50 x-000000000090")
	w.works(4)
	w.is("a table", w.names(), "current l-43 m-42 t-44 t-50 x-000000000090")
	w.falls(99, 1<<20)
	w.goesUp()
	w.is("the next life", w.names(), "current l-46 m-47 t-44 t-45 t-50 x-000000000090")
}
