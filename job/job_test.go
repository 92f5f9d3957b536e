package job

import (
	"fmt"
	"math"
	"runtime"
	"slices"
	"strings"
	"testing"
	"time"

	"scree/api"
	"scree/disk"
	"scree/ikey"
	"scree/table"
)

func put(key string, bytes int) api.Write {
	return api.Write{Key: key, Val: strings.Repeat("v", bytes)}
}

// puts: so many keys, rising, each of three bytes, with a value of so many.
func puts(keys, bytes int) []api.Write {
	var l []api.Write
	for i := range keys {
		l = append(l, put(fmt.Sprintf("%03d", i), bytes))
	}
	return l
}

// isSteps holds a job's steps, numbered from 1 on, to be these.
func isSteps(t *testing.T, what string, j *Job, want string) {
	t.Helper()
	if got := steps(t, j, 1); got != want && shape(got) != want {
		t.Errorf("P17.4: %s: %s, want %s", what, got, want)
	}
}

func isOut(t *testing.T, what string, d *disk.Disk, j *Job, want string) {
	t.Helper()
	if got := outText(t, d, j); got != want {
		t.Errorf("P17.7: %s: %s, want %s", what, got, want)
	}
}

func isPointer(t *testing.T, what string, j *Job, want string) {
	t.Helper()
	if got := j.Pointer(); got != want {
		t.Errorf("P17.6: %s: pointer %q, want %q", what, got, want)
	}
}

func TestExampleOne(t *testing.T) {
	d := world(t)
	j := flushOf(t, conf, 1).start(d)
	isSteps(t, "an empty memtable", j, "")
	if len(j.Out()) != 0 || len(d.Files()) != 0 {
		t.Errorf("P17.7: of an empty memtable: %v, %v", j.Out(), d.Files())
	}
	in := flushOf(t, conf, 1, api.Write{Key: "a", Val: "1"}, api.Write{Key: "a", Val: "2"}, api.Write{Key: "b", Del: true})
	j = in.start(d)
	isSteps(t, "example 1", j, "FMWS")
	isOut(t, "example 1", d, j, "L0 a2 b-3")
	isPointer(t, "example 1", j, "")
	bytes := len(d.Files()[0].Data)
	want := []api.Placed{{Level: 0, Table: api.Table{Number: 2, Weight: 451 + 450, Bytes: bytes, Entries: 2, Least: "a", Greatest: "b"}}}
	if !slices.Equal(j.Out(), want) {
		t.Errorf("P17.6: %v, want %v", j.Out(), want)
	}
}

func TestExampleTwo(t *testing.T) {
	const tables = "a-9 b8 c7 | b3"
	d := world(t)
	j := compactionOf(t, conf, 1, tables, "", "").start(d)
	isPointer(t, "no cut", j, "c")
	isSteps(t, "no cut", j, "FFMWS")
	isOut(t, "no cut", d, j, "L2 b8 c7")
	d = world(t)
	j = compactionOf(t, conf, 1, tables, "c", "").start(d)
	isPointer(t, "the cut c", j, "b")
	isSteps(t, "the cut c", j, "FMWSFMWS")
	isOut(t, "the cut c", d, j, "L2 b8 | L1 c7")
	isPointer(t, "the cut c, done", j, "b")
}

func TestExampleThree(t *testing.T) {
	in := flushOf(t, conf, 1, put("a", 300))
	for calls, want := range []int{Make, Write, Seal} {
		d := world(t)
		j := in.start(d)
		done := 0
		for j.Next() != Done {
			next := j.Next()
			if next != Fill && done == calls {
				d.Arm(1)
			}
			err := j.Step(5)
			if next != Fill && done == calls {
				if err != api.ErrDiskDown || next != want || j.Next() != Done || j.Size() != 0 || len(j.Out()) != 0 || j.Step(6) != api.OK {
					t.Errorf("P17.5: a %d while it is down: error %d, then %d, %v", next, err, j.Next(), j.Out())
				}
				break
			}
			if next != Fill {
				done++
			}
		}
	}
	d := world(t)
	d.Arm(1)
	d.SyncDir()
	j := in.start(d)
	if err := j.Step(1); !d.Down() || err != api.OK || j.Next() != Make {
		t.Errorf("P17.5: a Fill while it is down: error %d, then %d", err, j.Next())
	}
}

// TestWhatStays: all ways in which a part's entries meet.
func TestWhatStays(t *testing.T) {
	c := conf
	c.FileBytes = math.MaxInt
	for _, row := range []struct {
		what, tables, cut, below, out, pointer string
		level                                  int
	}{
		{"deletes go, but those that hide something", "a-9 b-9 c9 | a1 b1 c1", "", "b", "L1 b-9 c9", "", 0},
		{"a newer one below counts", "a1 b-1 | a2 b2", "", "", "L1 a2 b2", "", 0},
		{"level 0's tables among each other", "a1 c3, a2, a-3 b1 | ", "", "", "L1 b1 c3", "", 0},
		{"no lower table", "a-1 b2 | ", "", "", "L3 b2", "b", 2},
		{"no upper table", " | a1 b-2, c3", "", "", "L2 a1 c3", "", 1},
		{"no upper table, a cut", " | a1 b-2, c3", "b", "", "L2 a1", "", 1},
		{"no table", " | ", "", "", "", "", 1},
		{"no table, a cut", " | ", "b", "", "", "", 1},
		{"a cut: others' entries from it on aren't taken", "a1 d-4, a3 d9 | b2 e1, f1", "d", "", "L2 a3 b2 | L1 d-4", "a", 1},
		{"a cut in level 0", "a1 d-4 | b2 e1", "d", "", "L1 a1 b2 | L0 d-4", "", 0},
		{"a cut ahead of all", "b1 c-2 | b3", "a", "", "L1 b1 c-2", "", 1},
		{"a cut at the least", "b1 c-2 | a1 b3", "b", "", "L2 a1 | L1 b1 c-2", "", 1},
		{"a cut at the greatest", "b1 c-2 | a1 b3", "c", "", "L2 a1 b3 | L1 c-2", "b", 1},
		{"a cut behind all", "b1 c-2 | a1 b3", "cc", "", "L2 a1 b3", "c", 1},
		{"the pointer is the first upper table's", "b1, f1 | c1, g1", "", "", "L2 b1 c1 f1 g1", "b", 1},
		{"a pointer that is deleted", "b1 d-1 | c1", "", "", "L2 b1 c1", "d", 1},
		{"level -1 has no pointer", "b1 | ", "", "", "L0 b1", "", -1},
		{"the greatest level", "b1 c1 | ", "c", "", fmt.Sprint("L", math.MinInt, " b1 | L", math.MaxInt, " c1"), "b", math.MaxInt},
	} {
		for _, move := range []bool{false, true} {
			in := compactionOf(t, c, row.level, row.tables, row.cut, row.below)
			in.job.Move = move
			d := world(t)
			j := in.start(d)
			isPointer(t, row.what, j, row.pointer)
			steps(t, j, 1)
			isOut(t, row.what, d, j, row.out)
			if len(d.Files()) != len(j.Out()) {
				t.Errorf("P17.7: %s: %d files of %d tables", row.what, len(d.Files()), len(j.Out()))
			}
		}
	}
}

// TestSameNumber: of entries with one number the one of the table that is named first counts.
func TestSameNumber(t *testing.T) {
	in := input{c: conf, below: always, job: api.Job{Level: 0}}
	l := []api.Table{}
	for i, val := range []string{"x", "y", "z"} {
		l = append(l, in.put(t, uint64(40-i), []api.Entry{{Key: "a", Seq: 5, Val: val}}))
	}
	for _, row := range []struct {
		upper, lower []api.Table
		want         string
	}{{l[:2], l[2:], "x"}, {[]api.Table{l[1], l[0]}, l[2:], "y"}, {l[2:], l[:2], "z"}, {nil, l[1:], "y"}} {
		in.job.Upper, in.job.Lower = row.upper, row.lower
		d := world(t)
		j := in.start(d)
		steps(t, j, 1)
		if got := held(t, d, j.Out()[0]); len(got) != 1 || got[0].Val != row.want {
			t.Errorf("P17.2: %v, want %s", got, row.want)
		}
	}
}

// TestFlushIsOneTable: a flush keeps every delete, and ends no table ahead of its last key.
func TestFlushIsOneTable(t *testing.T) {
	c := conf
	for _, c.FileBytes = range []int{math.MinInt, 0, 1, 2048} {
		d := world(t)
		l := append(puts(30, 400), api.Write{Key: "000", Del: true}, api.Write{Key: "x", Del: true})
		j := flushOf(t, c, 1, l...).start(d)
		steps(t, j, 1)
		if out := j.Out(); len(out) != 1 || out[0].Level != 0 || out[0].Table.Entries != 31 {
			t.Fatalf("P17.7: FileBytes %d: %v", c.FileBytes, out)
		}
		got := held(t, d, j.Out()[0])
		if got[0] != (api.Entry{Key: "000", Seq: 31, Del: true}) || got[30] != (api.Entry{Key: "x", Seq: 32, Del: true}) {
			t.Errorf("P17.2: deletes of a flush: %v", got)
		}
	}
}

// TestFileBytes: at the weight, one below it and one past it; and numbers that no table stays below.
func TestFileBytes(t *testing.T) {
	// Each of the puts weighs 450 + 400, the delete 450.
	const tables = "a1 b1 c1, d-1 e1 f1 g1 | "
	for bytes, want := range map[int]string{
		math.MinInt:    "L1 a1 | L1 b1 | L1 c1 | L1 d-1 | L1 e1 | L1 f1 | L1 g1",
		0:              "L1 a1 | L1 b1 | L1 c1 | L1 d-1 | L1 e1 | L1 f1 | L1 g1",
		1:              "L1 a1 | L1 b1 | L1 c1 | L1 d-1 | L1 e1 | L1 f1 | L1 g1",
		450:            "L1 a1 | L1 b1 | L1 c1 | L1 d-1 | L1 e1 | L1 f1 | L1 g1",
		451:            "L1 a1 | L1 b1 | L1 c1 | L1 d-1 e1 | L1 f1 | L1 g1",
		1699:           "L1 a1 b1 | L1 c1 d-1 e1 | L1 f1 g1",
		1700:           "L1 a1 b1 | L1 c1 d-1 e1 | L1 f1 g1",
		1701:           "L1 a1 b1 c1 | L1 d-1 e1 f1 | L1 g1",
		6*850 + 450:    "L1 a1 b1 c1 d-1 e1 f1 g1",
		6*850 + 451:    "L1 a1 b1 c1 d-1 e1 f1 g1",
		5*850 + 450:    "L1 a1 b1 c1 d-1 e1 f1 | L1 g1",
		math.MaxInt:    "L1 a1 b1 c1 d-1 e1 f1 g1",
		math.MaxUint16: "L1 a1 b1 c1 d-1 e1 f1 g1",
	} {
		for _, chunk := range []int{1, 1000, math.MaxInt} {
			c := conf
			c.FileBytes, c.MaxChunk = bytes, chunk
			d := world(t)
			j := compactionOf(t, c, 0, tables, "", "d").start(d)
			steps(t, j, 1)
			isOut(t, fmt.Sprint("FileBytes ", bytes, " MaxChunk ", chunk), d, j, want)
		}
	}
}

// TestFillEnds: what was taken is weighed with all entries, those too that go, and a key isn't torn.
func TestFillEnds(t *testing.T) {
	c := conf
	c.BlockBytes, c.FileBytes = math.MaxInt, math.MaxInt // nothing is laid before the end
	fills := func(what, tables, below string, rows map[int]string) {
		t.Helper()
		for chunk, want := range rows {
			c.MaxChunk = chunk
			isSteps(t, fmt.Sprint(what, ", MaxChunk ", chunk), compactionOf(t, c, 0, tables, "", below).start(world(t)), want)
		}
	}
	// Four keys, 850 each.
	fills("puts", "a1 b1 c1 d1 | ", "", map[int]string{1700: "FFMWS", 1701: "FFMWS", 2550: "FFMWS", 2551: "FMWS", 3400: "FMWS", 3401: "FMWS"})
	// A key of 450 + 850 that stays, one of 850, one of 850 + 850.
	fills("keys of several", "a-2 c2 | a1 b1 c1", "a", map[int]string{1300: "FFMWS", 1301: "FFMWS", 2150: "FFMWS", 2151: "FMWS"})
	// All goes: no table is made.
	fills("deletes that go", "a-2 b-2 c-2 | a1 b1", "", map[int]string{1300: "FFF", 1301: "FF", 2600: "FF", 2601: "F"})
	m := []api.Write{put("a", 0), put("a", 0), put("a", 0), put("b", 0)}
	for chunk, want := range map[int]string{450 * 3: "FFMWS", 450*3 + 1: "FMWS"} {
		c.MaxChunk = chunk
		isSteps(t, fmt.Sprint("a memtable, MaxChunk ", chunk), flushOf(t, c, 1, m...).start(world(t)), want)
	}
}

// TestWritesBetween: what is ready is laid as soon as it is a chunk, while the table is under way.
func TestWritesBetween(t *testing.T) {
	c := conf
	c.MaxChunk = 900
	// A Fill takes two keys of 850, and each is a block of 418 bytes: a chunk is there behind the third.
	j := compactionOf(t, c, 0, "a1 b1 c1 d1 e1 f1 | ", "", "").start(world(t))
	c.FileBytes = math.MaxInt
	whole := compactionOf(t, c, 0, "a1 b1 c1 d1 e1 f1 | ", "", "").start(world(t))
	isSteps(t, "two tables", j, "FFMWWSFFMWWS")
	isSteps(t, "one table", whole, "FFMWFWWS")
}

// TestChunkOfBytes: at the buffer's length, one below it, one past it; below 1 it counts as 1.
func TestChunkOfBytes(t *testing.T) {
	d := world(t)
	c := conf
	c.MaxChunk = math.MaxInt
	in := flushOf(t, c, 1, put("a", 100))
	steps(t, in.start(d), 1)
	n := len(d.Files()[0].Data)
	for chunk, want := range map[int]string{
		n:           fmt.Sprintf("F M W%d S", n),
		n + 1:       fmt.Sprintf("F M W%d S", n),
		n - 1:       fmt.Sprintf("F M W%d W1 S", n-1),
		math.MaxInt: fmt.Sprintf("F M W%d S", n),
		1:           "F M " + strings.Repeat("W1 ", n) + "S",
		0:           "F M " + strings.Repeat("W1 ", n) + "S",
		-1:          "F M " + strings.Repeat("W1 ", n) + "S",
		math.MinInt: "F M " + strings.Repeat("W1 ", n) + "S",
	} {
		in.c.MaxChunk = chunk
		isSteps(t, fmt.Sprint("MaxChunk ", chunk, " of ", n), in.start(world(t)), want)
	}
}

// TestEmptyParts: a part without a key is left for the next one; of none that has one nothing is done.
func TestEmptyParts(t *testing.T) {
	c := conf
	c.FileBytes = math.MaxInt
	for _, row := range []struct{ tables, cut, steps string }{
		{"b1 c1 | ", "a", "FFMWWS"},
		{"b1 c1 | ", "b", "FFMWWS"},
		{"b1 c1 | ", "d", "FFMWWS"},
		{" | b1", "a", ""},
		{" | ", "", ""},
		{"a-1 | ", "b", "F"},
		{"a-1 c1 | ", "b", "FFMWS"},
	} {
		c.MaxChunk = 850 // a put a step
		isSteps(t, row.tables+" cut at "+row.cut, compactionOf(t, c, 1, row.tables, row.cut, "").start(world(t)), row.steps)
	}
}

func TestNames(t *testing.T) {
	for number, name := range map[uint64]string{
		0: "t-000000000000", 7: "t-000000000007", 99_999_999_999: "t-099999999999", 999_999_999_999: "t-999999999999",
		1_000_000_000_000: "t-1000000000000", math.MaxUint64: "t-18446744073709551615",
	} {
		d := world(t)
		j := flushOf(t, conf, 1, put("a", 9)).start(d)
		for j.Next() != Done {
			n := uint64(55) // looked at by a Make alone
			if j.Next() == Make {
				n = number
			}
			if err := j.Step(n); err != api.OK {
				t.Fatalf("P17.5: number %d: error %d", number, err)
			}
		}
		files := d.Files()
		if len(files) != 1 || files[0].Name != name || files[0].Sure != len(files[0].Data) || j.Out()[0].Table.Number != number {
			t.Errorf("P17.5: number %d: %v, %v", number, files, j.Out())
		}
	}
}

// TestTwice: a number whose file is there is refused, and what is there stays as it is.
func TestTwice(t *testing.T) {
	d := world(t)
	d.Create("t-000000000003")
	d.Append("t-000000000003", []byte("xyz"))
	in := compactionOf(t, conf, 1, "a1 b1 c1 d1 e1 f1 | ", "", "")
	j := in.start(d)
	for len(j.Out()) == 0 {
		j.Step(8)
	}
	for j.Next() != Make {
		j.Step(3)
	}
	if err := j.Step(3); err != api.ErrDiskTwice || j.Next() != Done || j.Size() != 0 {
		t.Errorf("P17.5: error %d, then %d", err, j.Next())
	}
	isOut(t, "what was sealed ahead", d, j, "L2 a1 b1 c1")
	isPointer(t, "over", j, "f")
	before := d.Files()
	for range 3 {
		if err := j.Step(9); err != api.OK || j.Next() != Done || len(j.Out()) != 1 {
			t.Errorf("P17.5: behind the end: error %d, %d, %v", err, j.Next(), j.Out())
		}
	}
	if len(before) != 2 || len(d.Files()) != 2 || string(before[0].Data) != "xyz" {
		t.Errorf("P17.5: %v, then %v", before, d.Files())
	}
}

// TestRefusedEntry: a number that can't be written ends the job where it is met, and no further key is laid down.
func TestRefusedEntry(t *testing.T) {
	c := conf
	c.MaxChunk = 500 // two keys a step
	in := flushOf(t, c, 1<<56-4, append(puts(2, 300), put("zz", 9), put("b", 300), put("c", 300), put("d", 300))...)
	d := world(t)
	j := in.start(d)
	var made string
	for {
		made += string("?MFWSD"[j.Next()])
		err := j.Step(4)
		if err == api.OK && j.Next() != Done {
			continue
		}
		// 000, 001, then b (2^56 - 1), then c (2^56), which is refused.
		if err != api.ErrBlockForm || j.Next() != Done || len(j.Out()) != 0 || made != "FFMWFF" {
			t.Errorf("P17.5: error %d behind %s, then %d, %v", err, made, j.Next(), j.Out())
		}
		break
	}
	files := d.Files()
	if len(files) != 1 || len(files[0].Data) != c.MaxChunk || files[0].Sure != 0 {
		t.Errorf("P17.5: what was done stays done: %v", files)
	}
	if err := j.Step(5); err != api.OK || len(d.Files()) != 1 {
		t.Errorf("P17.5: behind the end: error %d, %v", err, d.Files())
	}
	// The first entry of a table.
	j = flushOf(t, conf, math.MaxUint64, put("a", 1)).start(d)
	if err := j.Step(1); err != api.ErrBlockForm || j.Next() != Done {
		t.Errorf("P17.5: the first entry: error %d, %d", err, j.Next())
	}
}

// TestSealOrder: first the file, then the names; behind a refused Sync no SyncDir.
func TestSealOrder(t *testing.T) {
	for calls := range 2 {
		d := world(t)
		j := flushOf(t, conf, 1, put("a", 9)).start(d)
		for j.Next() != Seal {
			j.Step(1)
		}
		d.Fail(calls, 1, 0)
		if err := j.Step(1); err != api.ErrDiskFault || j.Next() != Done || len(j.Out()) != 0 {
			t.Errorf("P17.5: call %d of a Seal fails: error %d, %d, %v", calls, err, j.Next(), j.Out())
		}
		f := d.Files()[0]
		if len(d.Image(0, nil)) != 0 || (f.Sure == len(f.Data)) != (calls == 1) {
			t.Errorf("P17.5: call %d of a Seal fails: %v are sure, of the file %d", calls, d.Image(0, nil), f.Sure)
		}
	}
}

// TestManyKeys: around how many keys are read at once.
func TestManyKeys(t *testing.T) {
	c := conf
	for _, keys := range []int{1, 2, readAhead - 1, readAhead, readAhead + 1, 2*readAhead - 1, 2 * readAhead, 2*readAhead + 1, 5 * readAhead} {
		for _, c.MaxChunk = range []int{1000, readAhead * 454, math.MaxInt} {
			d := world(t)
			in := flushOf(t, c, 1, puts(keys, 0)...)
			j := in.start(d)
			steps(t, j, 1)
			if got := held(t, d, j.Out()[0]); !slices.Equal(got, in.batches) {
				t.Errorf("P17.7: %d keys of a memtable: %v", keys, got)
			}
			in = input{c: c, below: always}
			l := ikey.Entries(1, puts(keys, 0))
			in.job.Upper = []api.Table{in.put(t, 1, l)}
			in.job.Lower = []api.Table{in.put(t, 2, l[keys/2:])}
			in.job.Cut = l[keys/3].Key
			j = in.start(d)
			steps(t, j, 1000)
			var got []api.Entry
			for _, p := range j.Out() {
				got = append(got, held(t, d, p)...)
			}
			if !slices.Equal(got, l) {
				t.Errorf("P17.7: %d keys of tables: %v", keys, got)
			}
		}
	}
}

// TestHandedIn: lists that were handed in are neither changed nor kept, and what is answered is nobody else's.
func TestHandedIn(t *testing.T) {
	in := compactionOf(t, conf, 1, "a1 b1 c1 d1, b2 g2 | c0 e0, f0", "d", "")
	want := compactionOf(t, conf, 1, "a1 b1 c1 d1, b2 g2 | c0 e0, f0", "d", "")
	upper, lower := slices.Clone(in.job.Upper), slices.Clone(in.job.Lower)
	asked := 0
	find := func(number uint64) *table.Table {
		asked++
		if number < 100 || number > 103 {
			t.Errorf("P17.1: asked of table %d", number)
		}
		return in.tables[number]
	}
	d, other := world(t), world(t)
	j, twin := Compact(conf, d, in.job, find, in.below), want.start(other)
	if !slices.Equal(in.job.Upper, upper) || !slices.Equal(in.job.Lower, lower) || asked == 0 {
		t.Errorf("rule 3: the job's lists were changed: %v", in.job)
	}
	for _, l := range [][]api.Table{in.job.Upper, in.job.Lower} {
		clear(l[:cap(l)])
	}
	for n := uint64(1); j.Next() != Done || twin.Next() != Done; n++ {
		if stepText(j) != stepText(twin) {
			t.Fatalf("rule 3: %s, want %s", stepText(j), stepText(twin))
		}
		j.Step(n)
		twin.Step(n)
		out := j.Out()
		clear(out[:cap(out)])
	}
	if !slices.Equal(j.Out(), twin.Out()) || j.Pointer() != twin.Pointer() || len(j.Out()) != 2 {
		t.Errorf("rule 3: %v, want %v", j.Out(), twin.Out())
	}
	a := append(j.Out(), api.Placed{Level: 7})
	b := append(j.Out(), api.Placed{Level: 8})
	if a[len(a)-1].Level != 7 || b[len(b)-1].Level != 8 {
		t.Errorf("rule 3: two answers share their spare room")
	}
}

// TestAsksNothing: asking changes nothing.
func TestAsksNothing(t *testing.T) {
	in := compactionOf(t, conf, 1, "a1 b1 c1 d1 | c0 e0, f0", "d", "")
	d, other := world(t), world(t)
	j, twin := in.start(d), in.start(other)
	for n := uint64(1); twin.Next() != Done; n++ {
		for range 3 {
			j.Next()
			j.Size()
			j.Out()
			j.Pointer()
		}
		if stepText(j) != stepText(twin) {
			t.Fatalf("P17.4: %s, want %s", stepText(j), stepText(twin))
		}
		j.Step(n)
		twin.Step(n)
	}
	if !sameDisks(d, other) {
		t.Errorf("P17.7: the disks differ")
	}
}

func TestZeroJob(t *testing.T) {
	var j Job
	if j.Next() != Done || j.Size() != 0 || j.Step(1) != api.OK || len(j.Out()) != 0 || j.Pointer() != "" || j.Next() != Done {
		t.Errorf("a zero job has something left: %d", j.Next())
	}
}

// TestNothingRunsOn: jobs that are left in the middle leave nothing running.
func TestNothingRunsOn(t *testing.T) {
	before := runtime.NumGoroutine()
	for n := range 50 {
		d := world(t)
		for _, in := range []input{flushOf(t, conf, 1, puts(200, 300)...), compactionOf(t, conf, 1, "a1 b1 c1 d1 | c0 e0, f0", "d", "")} {
			j := in.start(d)
			for range n {
				j.Step(1)
			}
		}
	}
	for range 100 {
		if runtime.NumGoroutine() <= before {
			return
		}
		time.Sleep(10 * time.Millisecond)
	}
	t.Errorf("%d goroutines are left of jobs", runtime.NumGoroutine()-before)
}
