package job

import (
	"fmt"
	"math"
	"math/rand"
	"slices"
	"strings"
	"testing"

	"scree/api"
	"scree/disk"
	"scree/ikey"
	"scree/mem"
	"scree/table"
)

// conf: the configuration of the chapter's examples.
var conf = api.Config{MaxChunk: 1088, FileBytes: 2048, BlockBytes: 64, Restart: 4}

func world(t testing.TB) *disk.Disk {
	t.Helper()
	d, err := disk.New(0, nil)
	if err != api.OK {
		t.Fatalf("no disk: error %d", err)
	}
	return d
}

// input: what a job is made of, and the same as plain lists.
type input struct {
	c        api.Config
	memtable *mem.Table // nil: it is a compaction
	batches  []api.Entry
	job      api.Job
	entries  map[uint64][]api.Entry // of the tables, by number
	tables   map[uint64]*table.Table
	below    func(key string) bool
}

func (in input) start(d *disk.Disk) *Job {
	if in.memtable != nil {
		return Flush(in.c, d, in.memtable)
	}
	find := func(number uint64) *table.Table { return in.tables[number] }
	return Compact(in.c, d, in.job, find, in.below)
}

// flushOf: a flush of these writes, numbered from a number on.
func flushOf(t testing.TB, c api.Config, first uint64, writes ...api.Write) input {
	t.Helper()
	in := input{c: c, memtable: mem.New([]byte{3, 200, 77})}
	for ; len(writes) > 0; writes = writes[min(len(writes), api.MaxOps):] {
		l := writes[:min(len(writes), api.MaxOps)]
		if err := in.memtable.Add(first, l); err != api.OK {
			t.Fatalf("no memtable: error %d", err)
		}
		in.batches = append(in.batches, ikey.Entries(first, l)...)
		first += uint64(len(l))
	}
	in.memtable.Freeze()
	return in
}

// opened: a table of these entries.
func opened(t testing.TB, c api.Config, l []api.Entry) *table.Table {
	t.Helper()
	m := table.NewMaker(c)
	var b []byte
	for _, e := range l {
		more, err := m.Add(e)
		if err != api.OK {
			t.Fatalf("no table: %v: error %d", e, err)
		}
		b = append(b, more...)
	}
	more, err := m.End()
	if err != api.OK {
		t.Fatalf("no table: error %d", err)
	}
	x, err := table.Open(append(b, more...))
	if err != api.OK {
		t.Fatalf("no table: error %d", err)
	}
	return x
}

// put brings a table into a compaction: it is known by its number from now on.
func (in *input) put(t testing.TB, number uint64, l []api.Entry) api.Table {
	t.Helper()
	if in.tables == nil {
		in.tables, in.entries = map[uint64]*table.Table{}, map[uint64][]api.Entry{}
	}
	in.tables[number], in.entries[number] = opened(t, in.c, l), l
	meta := in.tables[number].Meta()
	meta.Number = number
	return meta
}

// compactionOf: a compaction of tables as texts: upper ones, a bar, lower ones; `a5 b-3, c1` are two tables, the first with a (5) and b (3, deleted).
func compactionOf(t testing.TB, c api.Config, level int, tables, cut, below string) input {
	t.Helper()
	in := input{c: c, job: api.Job{Level: level, Cut: cut}, below: func(key string) bool { return strings.Contains(below, key) }}
	number := uint64(100)
	for i, side := range strings.Split(tables, "|") {
		for _, text := range strings.Split(side, ",") {
			if strings.TrimSpace(text) == "" {
				continue
			}
			meta := in.put(t, number, entriesOf(t, text))
			number++
			if i == 0 {
				in.job.Upper = append(in.job.Upper, meta)
			} else {
				in.job.Lower = append(in.job.Lower, meta)
			}
		}
	}
	return in
}

// entriesOf: a key, - for a delete, a number; a value of 400 bytes that tells both.
func entriesOf(t testing.TB, text string) []api.Entry {
	t.Helper()
	var l []api.Entry
	for _, w := range strings.Fields(text) {
		e := api.Entry{Key: w[:1], Del: w[1] == '-'}
		if _, err := fmt.Sscan(strings.TrimPrefix(w[1:], "-"), &e.Seq); err != nil {
			t.Fatalf("no entry: %s", w)
		}
		if !e.Del {
			e.Val = strings.Repeat(w, 400)[:400]
		}
		l = append(l, e)
	}
	return l
}

// steps does a job to its end, and tells its steps by their first letters, a Write with its bytes.
func steps(t testing.TB, j *Job, number uint64) string {
	t.Helper()
	var s []string
	for j.Next() != Done {
		s = append(s, stepText(j))
		if err := j.Step(number); err != api.OK {
			t.Fatalf("P17.5: behind %v: error %d", s, err)
		}
		number++
	}
	return strings.Join(s, " ")
}

func stepText(j *Job) string {
	s := string("?MFWSD"[j.Next()])
	if n := j.Size(); n != 0 {
		s += fmt.Sprint(n)
	}
	return s
}

// shape: a text of steps without the numbers of bytes.
func shape(s string) string {
	return strings.Map(func(r rune) rune {
		if r >= '0' && r <= '9' || r == ' ' {
			return -1
		}
		return r
	}, s)
}

// held: the entries of a table's file.
func held(t testing.TB, d *disk.Disk, p api.Placed) []api.Entry {
	t.Helper()
	b, err := d.Read(fmt.Sprintf("t-%012d", p.Table.Number))
	if err != api.OK {
		t.Fatalf("P17.7: no file of table %d: error %d", p.Table.Number, err)
	}
	x, err := table.Open(b)
	if err != api.OK {
		t.Fatalf("P17.7: table %d can't be read: error %d", p.Table.Number, err)
	}
	meta := x.Meta()
	meta.Number = p.Table.Number
	if meta != p.Table {
		t.Errorf("P17.6: told %v, of %v", p.Table, meta)
	}
	return slices.Collect(x.From(""))
}

// outText: the tables of a job, with their levels.
func outText(t testing.TB, d *disk.Disk, j *Job) string {
	t.Helper()
	var s []string
	for _, p := range j.Out() {
		text := fmt.Sprint("L", p.Level)
		for _, e := range held(t, d, p) {
			text += " " + e.Key
			if e.Del {
				text += "-"
			}
			text += fmt.Sprint(e.Seq)
		}
		s = append(s, text)
	}
	return strings.Join(s, " | ")
}

func one[T any](r *rand.Rand, l ...T) T { return l[r.Intn(len(l))] }

func anyConfig(r *rand.Rand) api.Config {
	return api.Config{
		MaxChunk:   one(r, math.MinInt, 0, 1, 13, 450, 1000, 1088, 1088, 2048, 5000, 1<<16, math.MaxInt),
		FileBytes:  one(r, math.MinInt, 0, 1, 450, 451, 1000, 2048, 2048, 5000, 20000, math.MaxInt),
		BlockBytes: one(r, math.MinInt, 0, 1, 64, 300, 1000, 4096, math.MaxInt),
		Restart:    one(r, math.MinInt, 0, 1, 2, 4, 16, math.MaxInt),
		BloomBits:  one(r, math.MinInt, 0, 1, 10, 16),
		// What follows doesn't count.
		Clients: r.Int() - r.Int(), MemBytes: r.Int() - r.Int(), Levels: r.Int() - r.Int(), Fan: -r.Int(), Rate: r.Int() - r.Int(), MaxGroup: -r.Int(),
	}
}

func anyKey(r *rand.Rand) string {
	if r.Intn(40) == 0 {
		return strings.Repeat("b", api.MaxKey)
	}
	b := make([]byte, 1+r.Intn(3))
	for i := range b {
		b[i] = one[byte](r, 0, 'a', 'b', 'c', 'd', 255)
	}
	return string(b)
}

// manyKeys: as many as a key is likely to be there twice, or as many as aren't read at once.
func manyKeys(r *rand.Rand) int {
	if r.Intn(12) == 0 {
		return 50 + r.Intn(160)
	}
	return r.Intn(20)
}

func anyVal(r *rand.Rand) string {
	return strings.Repeat("v", one(r, 0, 1, r.Intn(30), r.Intn(30), r.Intn(api.MaxValue), api.MaxValue))
}

// anyFlush: now and then one with an entry that no table takes.
func anyFlush(t testing.TB, r *rand.Rand) input {
	var l []api.Write
	for range manyKeys(r) {
		w := api.Write{Key: anyKey(r), Val: anyVal(r)}
		if r.Intn(4) == 0 {
			w.Del = true
		}
		l = append(l, w)
	}
	return flushOf(t, anyConfig(r), one(r, 0, 1, 1, 1, uint64(r.Int63n(1<<55)), 1<<56-1-uint64(r.Intn(20))), l...)
}

func anyEntries(r *rand.Rand) []api.Entry {
	keys := []string{anyKey(r)}
	for range manyKeys(r) {
		keys = append(keys, anyKey(r))
	}
	slices.Sort(keys)
	var l []api.Entry
	for _, key := range slices.Compact(keys) {
		e := api.Entry{Key: key, Seq: uint64(r.Intn(12)), Del: r.Intn(3) == 0}
		if !e.Del {
			e.Val = anyVal(r)
		}
		l = append(l, e)
	}
	return l
}

func anyCompaction(t testing.TB, r *rand.Rand) input {
	in := input{c: anyConfig(r)}
	var known []api.Table
	for range r.Intn(7) {
		known = append(known, in.put(t, uint64(r.Intn(1000)), anyEntries(r)))
	}
	// Those whose number came twice are gone.
	known = slices.DeleteFunc(known, func(x api.Table) bool {
		n := x.Number
		x.Number = 0
		return in.tables[n].Meta() != x
	})
	for _, x := range known {
		for range one(r, 1, 1, 1, 1, 2) {
			if r.Intn(2) == 0 {
				in.job.Upper = append(in.job.Upper, x)
			} else {
				in.job.Lower = append(in.job.Lower, x)
			}
		}
	}
	in.job.Level = one(r, 0, 0, 1, 1, 2, 3, -1, math.MaxInt, math.MinInt)
	in.job.Cut = one(r, "", "", anyKey(r), anyKey(r), "\x00", "\xff\xff\xff\xff")
	in.job.Move = r.Intn(2) == 0
	if r.Intn(3) == 0 && len(in.job.Upper) > 0 {
		in.job.Cut = one(r, in.job.Upper[0].Least, in.job.Upper[0].Greatest, in.job.Upper[0].Greatest+"\x00")
	}
	odd := r.Intn(4)
	in.below = func(key string) bool { return odd == 0 || odd < 3 && int(key[len(key)-1])%2 == odd-1 }
	return in
}

func anyInput(t testing.TB, r *rand.Rand) input {
	if r.Intn(3) == 0 {
		return anyFlush(t, r)
	}
	return anyCompaction(t, r)
}
