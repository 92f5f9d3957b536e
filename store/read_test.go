package store

import (
	"fmt"
	"strings"
	"testing"

	"scree/api"
)

// roomy: as wide, with room for many entries in a table.
var roomy = func() api.Config {
	c := wide
	c.FileBytes = 1 << 16
	return c
}()

// shelves: files with tables in several levels, as no store makes them: numbers rise and fall as they like.
func shelves(t *testing.T) []api.File {
	t.Helper()
	return foreign(t, wide, 20,
		placed{0, 3, []api.Entry{entry("a", 9, "a3"), entry("c", 9, "c3"), entry("d", 9, "d3")}},
		placed{0, 4, []api.Entry{entry("b", 9, "b4"), entry("d", 10, "d4"), gone("f", 12)}},
		placed{0, 5, []api.Entry{entry("a", 8, "a5"), entry("e", 9, "e5")}},
		placed{1, 6, []api.Entry{entry("c", 50, "c6"), entry("g", 9, "g6")}},
		placed{1, 7, []api.Entry{entry("m", 9, "m7")}},
		placed{3, 8, []api.Entry{entry("c", 9, "c8"), entry("f", 3, "f8"), entry("h", 9, "h8"), entry("m", 10, "m8"), entry("z", 9, "z8")}},
	)
}

// TestGetTables: P19.10: which tables a Get asks, in which order, and what ends it.
func TestGetTables(t *testing.T) {
	w := upOver(t, roomy, shelves(t)...)
	w.is("the tables", w.tables(), "3:a-d 4:b-f 5:a-e/6:c-g 7:m-m//8:c-z")
	for _, x := range []struct{ key, want string }{
		{"a", `pin done=found"a5"`},                  // the newest of level 0 is asked first, whatever the numbers are
		{"e", `pin done=found"e5"`},                  //
		{"b", `pin look done=found"b4"`},             // not in 5
		{"d", `pin look done=found"d4"`},             // 5, 4; 3 has it too
		{"c", `pin look look done=found"c3"`},        // 5, 4, 3; the level below has a greater number
		{"f", "pin done"},                            // a delete is an answer
		{"g", `pin done=found"g6"`},                  // above all of level 0
		{"m", `pin done=found"m7"`},                  // of level 1 the one table that may have it
		{"h", `pin done=found"h8"`},                  // in the last level alone
		{"i", "pin done"},                            // in its hull, and not in it: none is left behind it
		{"cc", "pin look look look look done"},       // 5, 4, 3, 6, 8
		{"A", "pin done"},                            // in nobody's hull: no table is left at the beginning
		{"zz", "pin done"},                           //
		{strings.Repeat("c", 64), "pin 4*look done"}, // the longest key
	} {
		w.gets(0, get(x.key), "take")
		w.does(0, x.want)
		w.does(0, "idle")
	}
	// What is in a memtable is asked ahead of all tables, and what was deleted there is an answer.
	w.writes(del("h"))
	w.writes(put("f", "new"))
	w.gets(0, get("h"), "take")
	w.does(0, "done")
	w.gets(0, get("f"), "take")
	w.does(0, `done=found"new"`)
}

// TestGetMemtables: P19.10: the memtables, from the newest on, at the Get's number.
func TestGetMemtables(t *testing.T) {
	w := upOver(t, wide)
	w.writes(put("x", "1"))
	w.writes(put("y", "1"))
	w.fills("a", "b", "c", "d")
	w.writes(put("x", "2")) // the next memtable
	w.writes(put("z", ""))
	w.fills("a", "b", "c", "d")
	w.writes(put("z", "3"))
	w.is("memtables", fmt.Sprint(w.Status().Frozen), "2")
	w.is("in the active one", w.reads(get("z")), `done=found"3"`)
	w.is("in the newer frozen one", w.reads(get("x")), `done=found"2"`)
	w.is("in the oldest one", w.reads(get("y")), `done=found"1"`)
	// What is inserted is unseen till it is published, and a read that has begun doesn't see it then either.
	w.gets(0, put("n", "9", "y", "9"), "take")
	w.does(0, "admit lead append insert")
	w.gets(1, get("n"), "take")
	w.does(1, "pin")
	w.gets(2, scan("n", "z", 9), "take")
	w.does(2, "pin")
	w.gets(3, get("y"), "take")
	w.does(3, `done=found"1"`)
	w.does(0, "publish")
	w.does(1, "done")
	w.does(2, "done=x:2,y:1")
	w.gets(1, get("y"), "take")
	w.does(1, `done=found"9"`)
	// It is the first step that counts, not the submission.
	w.gets(1, get("q"), "take")
	w.gets(2, scan("q", "r", 1), "take")
	w.does(0, "done")
	w.writes(put("q", "5"))
	w.does(1, `done=found"5"`)
	w.does(2, "pin done=q:5")
}

// TestGetKeepsItsVersion: P19.10, and what an unpin deletes: a read asks the tables that were there at its first step.
func TestGetKeepsItsVersion(t *testing.T) {
	w := upOver(t, roomy, shelves(t)...)
	w.gets(1, get("cc"), "take")
	w.does(1, "pin look")
	w.gets(2, scan("c", "d", 9), "take")
	w.does(2, "pin")
	w.is("P19.13: pins", w.Status().Pins, 2)
	w.c.L0Trigger = 1
	w.works(6)
	w.is("level 0 is compacted", w.tables(), "/11:a-g 7:m-m//8:c-z")
	w.is("its tables are there, they are read", w.names(), "current l-9 m-10 t-3 t-4 t-5 t-6 t-7 t-8 t-11")
	w.gets(0, get("cc"), "take")
	w.does(0, "pin look done") // 11, 8
	w.does(1, "3*look")
	w.does(2, "done=c:c6")
	w.is("one pin is left", fmt.Sprint(w.Status().Pins, " ", w.names()), "1 current l-9 m-10 t-3 t-4 t-5 t-6 t-7 t-8 t-11")
	w.does(1, "done")
	w.is("none is left", fmt.Sprint(w.Status().Pins, " ", w.names()), "0 current l-9 m-10 t-7 t-8 t-11")
	w.is("what is read now", w.reads(scan("", "", 99)), "done=a:a3,b:b4,c:c6,d:d4,e:e5,g:g6,h:h8,m:m8,z:z8")
}

// TestScanRange: P19.11: which keys a Scan takes.
func TestScanRange(t *testing.T) {
	w := upOver(t, wide)
	w.is("nothing is there", w.reads(scan("", "", 9)), "done")
	for _, key := range []string{"a", "b", "bb", "c", "\xff"} {
		w.writes(put(key, key+key))
	}
	w.writes(del("b"))
	for _, x := range []struct {
		op   api.Op
		want string
	}{
		{scan("", "", 256), "done=a:aa,bb:bbbb,c:cc,\xff:\xff\xff"},
		{scan("", "", 2), "done=a:aa,bb:bbbb"},
		{scan("a", "", 1), "done=a:aa"},
		{scan("a\x00", "", 1), "done=bb:bbbb"},
		{scan("b", "c", 9), "done=bb:bbbb"},
		{scan("bb", "c\x00", 9), "done=bb:bbbb,c:cc"},
		{scan("", "a", 9), "done"},
		{scan("", "a\x00", 9), "done=a:aa"},
		{scan("c", "c", 9), "done"},
		{scan("c", "a", 9), "done"},
		{scan("", "\xff", 9), "done=a:aa,bb:bbbb,c:cc"},
		{scan("\xff\x00", "", 9), "done"},
	} {
		w.is(fmt.Sprintf("P19.11: Scan %q to %q, %d", x.op.Key, x.op.To, x.op.N), w.reads(x.op), x.want)
		w.does(0, "idle")
	}
}

// TestScanNewest: P19.11: of a key the newest counts, of several with its number the first source's.
func TestScanNewest(t *testing.T) {
	w := upOver(t, roomy, shelves(t)...)
	// c has a greater number in level 1, m in the last level; of a the oldest table has the greater one.
	w.is("P19.11: all", w.reads(scan("", "", 99)), "done=a:a3,b:b4,c:c6,d:d4,e:e5,g:g6,h:h8,m:m8,z:z8")
	// A memtable's entry with the number of a table's: the memtable is asked first.
	w = upOver(t, wide, foreign(t, wide, 2,
		placed{0, 3, []api.Entry{entry("a", 3, "old"), entry("b", 99, "far"), entry("c", 5, "c3")}},
		placed{0, 4, []api.Entry{entry("a", 2, "low"), entry("c", 5, "c4")}},
		placed{1, 5, []api.Entry{entry("c", 5, "c5"), entry("d", 5, "d5")}},
		placed{2, 6, []api.Entry{entry("c", 5, "c6"), gone("d", 5), entry("e", 0, "e6")}},
	)...)
	w.writes(put("a", "new"))
	w.is("P19.19: Seq", w.Status().Seq, 3)
	w.writes(put("b", "near"))
	w.is("P19.11: equal numbers", w.reads(scan("", "", 99)), "done=a:new,b:far,c:c4,d:d5,e:e6")
	w.is("P19.10: a Get asks one behind the other", w.reads(get("b")), `done=found"near"`)
}

// TestScanSteps: P19.11: how much a step takes, and what it answers.
func TestScanSteps(t *testing.T) {
	heavy := func(n int) string { return fmt.Sprintf("%064d", n) } // with 512 bytes of value: MaxChunk
	w := upOver(t, wide)
	for n := range 4 {
		w.writes(put(heavy(n), big))
	}
	w.gets(0, scan("", "", 256), "take")
	w.does(0, "pin look look look")
	w.is("P19.11: all are there, no key is left", len(w.Do(0).Pairs), 4)
	w.gets(0, scan("", "", 2), "take")
	w.does(0, "pin look")
	w.is("P19.11: N pairs are there", len(w.Do(0).Pairs), 2)
	// One byte less, and the next key is taken too.
	w = upOver(t, wide)
	w.writes(put(heavy(0), big[1:]))
	for n := 1; n < 5; n++ {
		w.writes(put(heavy(n), big))
	}
	w.gets(0, scan("", heavy(4), 256), "take")
	w.does(0, "pin look look")
	w.is("P19.11: To is the end", len(w.Do(0).Pairs), 4)
	// Entries that don't count weigh too: older ones of other sources, and deletes.
	w = upOver(t, wide, foreign(t, wide, 20,
		placed{0, 3, []api.Entry{entry("a", 1, "1"), entry("b", 1, "1")}},
		placed{0, 4, []api.Entry{entry("a", 2, "2"), entry("b", 2, "2")}},
		placed{1, 5, []api.Entry{entry("a", 3, "3"), gone("b", 3), entry("c", 3, "3"), gone("d", 3)}},
	)...)
	w.gets(0, scan("", "", 256), "take")
	w.does(0, "pin look look done=a:3,c:3")
	// Of a memtable the newest at the Scan's number alone is taken.
	w = upOver(t, wide)
	for range 8 {
		w.writes(put("a", ""))
		w.writes(put("b", "2"))
	}
	w.gets(0, scan("", "", 256), "take")
	w.does(0, "pin done=a:,b:2")
	// What comes behind the pin is unseen in each of the steps.
	w = upOver(t, wide)
	for n := range 3 {
		w.writes(put(heavy(2*n), big))
	}
	w.gets(1, scan("", "", 256), "take")
	w.does(1, "pin look")
	w.writes(put(heavy(1), "n", heavy(3), "n", heavy(4), "n", heavy(9), "n"))
	w.does(1, "look")
	w.writes(del(heavy(4)))
	r := w.Do(1)
	w.is("P19.11: its pairs", fmt.Sprint(len(r.Pairs), r.Pairs[2].Key == heavy(4), r.Pairs[2].Val == big), "3 true true")
}

// TestSnapshots: P19.12.
func TestSnapshots(t *testing.T) {
	c := wide
	c.Snapshots = 2
	w := upOver(t, c)
	w.writes(put("a", "1", "b", "1"))
	w.gets(0, snapOp, "take")
	w.gets(0, snapOp, "nothing")
	w.is("none is out yet", w.Status().Snapshots, 0)
	w.does(0, "done=snap1 idle")
	w.writes(put("a", "2"))
	w.writes(del("b"))
	w.gets(1, snapOp, "take")
	w.does(1, "done=snap2")
	w.writes(put("a", "3", "c", "3"))
	w.gets(2, snapOp, "take")
	w.does(2, "done!195 idle")
	w.is("P19.19: Snapshots", w.Status().Snapshots, 2)
	for _, x := range []struct {
		snap int
		want string
	}{{1, "done=a:1,b:1"}, {2, "done=a:2"}, {0, "done=a:3,c:3"}} {
		w.is("P19.12: a Scan", w.reads(of(x.snap, scan("", "", 9))), x.want)
	}
	w.is("P19.12: a Get", w.reads(of(1, get("b"))), `done=found"1"`)
	w.is("P19.12: a Get of what was deleted", w.reads(of(2, get("b"))), "done")
	w.is("P19.12: a Get of what came later", w.reads(of(2, get("c"))), "done")
	// Reads that have begun keep what they have, others don't; nor does a second Release.
	w.gets(0, of(1, scan("", "", 9)), "take")
	w.does(0, "pin")
	w.gets(1, of(1, scan("", "", 9)), "take")
	w.gets(2, release(1), "take")
	w.gets(3, release(1), "take")
	w.is("P19.13: pins", w.Status().Pins, 1)
	w.does(2, "done")
	w.is("P19.19: Snapshots", fmt.Sprint(w.Status().Snapshots, w.Status().Pins), "1 1")
	w.does(3, "done!194 idle")
	w.does(1, "done!194 idle")
	w.gets(1, of(1, get("a")), "refused!194")
	w.gets(1, release(1), "refused!194")
	w.does(0, "done=a:1,b:1")
	// A number is never given twice.
	w.gets(0, release(2), "take")
	w.does(0, "done")
	w.gets(0, snapOp, "take")
	w.does(0, "done=snap3")
	w.gets(0, of(2, get("a")), "refused!194")
	w.is("P19.12: the third one", w.reads(of(3, get("a"))), `done=found"3"`)
	w.gets(0, of(3, get("a")), "take")
	w.gets(1, release(3), "take")
	w.does(1, "done")
	w.does(0, "done!194")
	// None may be out at all.
	c.Snapshots = 0
	w = upOver(t, c)
	w.gets(0, snapOp, "take")
	w.does(0, "done!195")
}

// TestSnapshotKeepsTables: P19.12: a snapshot has its memtables and its version, whatever becomes of both.
func TestSnapshotKeepsTables(t *testing.T) {
	w := upOver(t, wide)
	w.fills("a", "b", "c", "d", "e")
	w.flushes("f", "1")
	w.gets(0, snapOp, "take")
	w.does(0, "done=snap1")
	w.fills("a", "b", "c", "d", "e")
	w.writes(del("a"))
	w.writes(del("f"))
	w.works(4)
	w.c.L0Trigger = 1
	w.works(6)
	w.is("the tables", w.tables(), "/7:a-c 8:d-f//")
	w.is("the snapshot has one more", w.names(), "current l-5 m-2 t-4 t-7 t-8")
	w.is("P19.12: from its memtable", w.reads(of(1, get("f"))), `done=found"1"`)
	w.is("P19.12: from its table", strings.Contains(w.reads(of(1, get("a"))), "found"), true)
	w.is("now", w.reads(get("a"))+w.reads(get("f")), "donedone")
	w.gets(0, release(1), "take")
	w.does(0, "done")
	w.is("it is deleted by the Release", w.names(), "current l-5 m-2 t-7 t-8")
}

// pinned: a store that has tables which a snapshot of client 0 alone has: 3, 4 and 5, and which client 1's Get has too, if it is to.
func pinned(t *testing.T, reads bool) hand {
	t.Helper()
	w := upOver(t, roomy, shelves(t)...)
	w.gets(0, snapOp, "take")
	w.does(0, "done=snap1")
	if reads {
		w.gets(1, of(1, get("cc")), "take")
		w.does(1, "pin 4*look")
	}
	w.c.L0Trigger = 1
	w.works(6)
	w.is("tables that only the snapshot has", w.names(), "current l-9 m-10 t-3 t-4 t-5 t-6 t-7 t-8 t-11")
	return w
}

// TestUnpinFails: a table that can't be deleted is the store's business: the operation is answered as if it had been.
func TestUnpinFails(t *testing.T) {
	for _, x := range []struct {
		after int
		left  string
	}{{0, "t-3 t-4 t-5 t-6 "}, {1, "t-4 t-5 t-6 "}, {3, "t-6 "}, {4, ""}} {
		for _, reads := range []bool{false, true} {
			w := pinned(t, reads)
			w.gets(0, release(1), "take")
			if reads {
				w.does(0, "done")
			}
			w.fails(x.after, 1, 0)
			// The next one would go well, and isn't tried.
			w.does(either(reads, 1, 0), "done")
			w.is("unpin: the tables", w.names(), "current l-9 m-10 "+x.left+"t-7 t-8 t-11")
			w.is("unpin: read-only", w.Status().ReadOnly, x.left != "")
			w.is("unpin: pins and snapshots", fmt.Sprint(w.Status().Pins, w.Status().Snapshots), "0 0")
			w.is("what is read", w.reads(scan("", "b\x00", 9)), "done=a:a3,b:b4")
			w.does(either(reads, 1, 0), "idle")
		}
	}
	// A fall: it is answered all the same, and the store is down.
	w := pinned(t, true)
	w.gets(0, release(1), "take")
	w.does(0, "done")
	w.Step(api.Step{Kind: api.StepArm, A: 2})
	w.does(1, "done idle")
	w.is("P19.19: down", w.Status(), api.Status{})
	w.gets(0, get("a"), "refused!190")
	w.is("one was deleted", w.names(), "current l-9 m-10 t-4 t-5 t-6 t-7 t-8 t-11")
	w.falls(99)
	w.goesUp()
	w.is("what is read", w.reads(scan("", "b\x00", 9)), "done=a:a3,b:b4")
}

// TestReadsInReadOnly: reads and snapshots go on, and so do the deletes of an unpin.
func TestReadsInReadOnly(t *testing.T) {
	w := pinned(t, false)
	w.gets(1, of(1, get("cc")), "take")
	w.does(1, "pin look")
	w.fails(0, 1, 0)
	w.gets(2, put("x", "1"), "take")
	w.does(2, "admit lead readonly!31 done!193")
	w.does(1, "3*look done")
	w.gets(1, snapOp, "take")
	w.does(1, "done=snap2")
	w.is("a Scan of a snapshot", w.reads(of(2, scan("", "b\x00", 9))), "done=a:a3,b:b4")
	w.gets(0, release(1), "take")
	w.does(0, "done")
	w.is("its tables are deleted", w.names(), "current l-9 m-10 t-7 t-8 t-11")
	w.gets(0, release(2), "take")
	w.does(0, "done")
}
