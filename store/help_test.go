package store

import (
	"fmt"
	"slices"
	"strings"
	"testing"

	"scree/api"
	"scree/manifest"
	"scree/table"
)

// small: the configuration of the chapter's examples.
var small = api.Config{
	Clients: 2, Flushers: 1, Compactors: 1, MemBytes: 4096, MaxImm: 1, L0Trigger: 1, L0Slow: 1, L0Stop: 2,
	Levels: 3, Base: 4096, Mult: 2, FileBytes: 2048, Fan: 1, BlockBytes: 64, Restart: 1, BloomBits: 0,
	MaxChunk: 1088, Rate: 1088, Burst: 1088, SlowRate: 20000, SlowBurst: 17408, MaxGroup: 1088, MaxDebt: 17408,
	DebtStop: 86013, Snapshots: 1, ScanLimit: 2, MaxManifest: 4096,
}

// wide: the same with more of everybody, and hardly a limit.
var wide = api.Config{
	Clients: 4, Flushers: 2, Compactors: 2, MemBytes: 4096, MaxImm: 4, L0Trigger: 16, L0Slow: 16, L0Stop: 16,
	Levels: 4, Base: 1 << 20, Mult: 10, FileBytes: 2048, Fan: 2, BlockBytes: 64, Restart: 1, BloomBits: 10,
	MaxChunk: 1088, Rate: 1 << 20, Burst: 1 << 20, SlowRate: 20000, SlowBurst: 17408, MaxGroup: 1 << 20, MaxDebt: 1 << 24,
	DebtStop: 1 << 30, Snapshots: 8, ScanLimit: 256, MaxManifest: 1 << 20,
}

// big: a value of the greatest length.
var big = strings.Repeat("v", api.MaxValue)

// hand: a store that is told what to do by hand.
type hand struct {
	*Store
	t *testing.T
}

// over makes a store over files, which is down.
func over(t *testing.T, c api.Config, files ...api.File) hand {
	t.Helper()
	s, err := New(c, 0, files, []byte{3, 1, 4})
	if s == nil || err != api.OK {
		t.Fatalf("P19.1: New: error %d", err)
	}
	return hand{s, t}
}

// upOver makes one that is up.
func upOver(t *testing.T, c api.Config, files ...api.File) hand {
	t.Helper()
	w := over(t, c, files...)
	w.goesUp()
	return w
}

// goesUp lets it come up.
func (w hand) goesUp() {
	w.t.Helper()
	for {
		switch r := w.Do(w.opener()); r.Did {
		case api.DidUp:
			return
		case api.DidOpen:
		default:
			w.t.Fatalf("P19.4: %s", text(r))
		}
	}
}

func (w hand) opener() int { return w.c.Clients + w.c.Flushers + w.c.Compactors }

// text tells all of a reply: `wait:turn`, `done!193`, `write=1088`, `done=found"1"`, `done=a:1,b:2`, `done=snap1`.
func text(r api.Reply) string {
	b := word(r)
	if r.Err != api.OK {
		b += fmt.Sprintf("!%d", int(r.Err))
	}
	if r.Found {
		b += fmt.Sprintf("=found%q", r.Val)
	} else if r.Val != "" {
		b += "=not-found-but" + r.Val
	}
	for i, p := range r.Pairs {
		b += either(i == 0, "=", ",") + p.Key + ":" + p.Val
	}
	if r.Snap != 0 {
		b += fmt.Sprintf("=snap%d", r.Snap)
	}
	if r.Wrote != 0 {
		b += fmt.Sprintf("=%d", r.Wrote)
	}
	return b
}

// either tells the first of two things, or the second.
func either[T any](first bool, a, b T) T {
	if first {
		return a
	}
	return b
}

// does holds the next steps of a machine to be these; a word with a number ahead of `*` counts so often.
func (w hand) does(k int, words string) {
	w.t.Helper()
	for i, want := range strings.Fields(words) {
		n := 1
		if a, b, ok := strings.Cut(want, "*"); ok {
			fmt.Sscan(a, &n)
			want = b
		}
		for range n {
			got := text(w.Do(k))
			// Where the words say nothing of how much was laid, any number is right.
			if plain, _, _ := strings.Cut(got, "="); want == "write" {
				got = plain
			}
			if got != want {
				w.t.Fatalf("machine %d, word %d of %q: %s", k, i, words, got)
			}
		}
	}
}

// gets holds a Submit to answer as the words say.
func (w hand) gets(k int, op api.Op, want string) {
	w.t.Helper()
	if got := text(w.Submit(k, op)); got != want {
		w.t.Fatalf("Submit(%d, %+v): %s, want %s", k, op, got, want)
	}
}

// put: a write of one or more puts: key, value, key, value ..
func put(l ...string) api.Op {
	op := api.Op{Kind: api.OpWrite}
	for i := 0; i+1 < len(l); i += 2 {
		op.Writes = append(op.Writes, api.Write{Key: l[i], Val: l[i+1]})
	}
	return op
}

func del(key string) api.Op {
	return api.Op{Kind: api.OpWrite, Writes: []api.Write{{Key: key, Del: true}}}
}

func synced(op api.Op) api.Op {
	op.Sync = true
	return op
}

func get(key string) api.Op { return api.Op{Kind: api.OpGet, Key: key} }

func scan(key, to string, n int) api.Op { return api.Op{Kind: api.OpScan, Key: key, To: to, N: n} }

// of makes a read one of a snapshot.
func of(snap int, op api.Op) api.Op {
	op.Snap = snap
	return op
}

var (
	snapOp = api.Op{Kind: api.OpSnap}
	syncOp = api.Op{Kind: api.OpSync}
)

func release(snap int) api.Op { return api.Op{Kind: api.OpRelease, Snap: snap} }

// writes does a write of client 0 from beginning to end, with a switch, if one is due.
func (w hand) writes(op api.Op) {
	w.t.Helper()
	w.gets(0, op, "take")
	for {
		r := w.Do(0)
		if r.Did == api.DidDone && r.Err == api.OK {
			return
		}
		if r.Did == api.DidWait || r.Err != api.OK {
			w.t.Fatalf("a write: %s", text(r))
		}
	}
}

// reads tells what a read of client 0 answers in the end.
func (w hand) reads(op api.Op) string {
	w.t.Helper()
	w.gets(0, op, "take")
	for {
		if r := w.Do(0); r.Did != api.DidPin && r.Did != api.DidLook {
			return text(r)
		}
	}
}

// works lets a worker do one whole job.
func (w hand) works(k int) {
	w.t.Helper()
	w.does(k, "claim")
	for {
		switch r := w.Do(k); r.Did {
		case api.DidInstall:
			return
		case api.DidWait:
			w.Step(api.Step{Kind: api.StepTick})
		case api.DidIdle, api.DidReadOnly, api.DidFall:
			w.t.Fatalf("a job: %s", text(r))
		}
	}
}

// fills writes values of a key from that one on till the memtable is full.
func (w hand) fills(keys ...string) {
	w.t.Helper()
	for _, key := range keys {
		w.writes(put(key, big))
	}
}

// flushes freezes the active memtable by one more write, and lets the first flusher make a table of it.
func (w hand) flushes(key, val string) {
	w.t.Helper()
	w.writes(put(key, val))
	w.works(w.c.Clients)
}

func (w hand) fails(after, calls, part int) {
	w.Step(api.Step{Kind: api.StepFail, A: after, B: calls, C: part})
}

func (w hand) falls(dir int, keep ...int) {
	w.Step(api.Step{Kind: api.StepFall, A: dir, Keep: keep})
}

// names: those of all files, short: `l-3`.
func (w hand) names() string {
	var l []string
	for _, f := range w.Files() {
		if _, number, ok := manifest.Number(f.Name); ok {
			l = append(l, fmt.Sprintf("%s-%d", f.Name[:1], number))
		} else {
			l = append(l, f.Name)
		}
	}
	return strings.Join(l, " ")
}

// bytesOf tells a file's bytes.
func (w hand) bytesOf(name string) []byte {
	w.t.Helper()
	for _, f := range w.Files() {
		if f.Name == name {
			return f.Data
		}
	}
	w.t.Fatalf("no file %s: %s", name, w.names())
	return nil
}

// tables tells the current version: `4:a-f 5:g-h / / 3:a-z`.
func (w hand) tables() string {
	var l []string
	for _, level := range w.Levels() {
		var k []string
		for _, x := range level {
			k = append(k, fmt.Sprintf("%d:%s-%s", x.Number, x.Least, x.Greatest))
		}
		l = append(l, strings.Join(k, " "))
	}
	return strings.Join(l, "/")
}

// is holds something to be as it is told.
func (w hand) is(what string, got, want any) {
	w.t.Helper()
	if a, b := fmt.Sprint(got), fmt.Sprint(want); a != b {
		w.t.Fatalf("%s: %.600s, want %.600s", what, a, b)
	}
}

func file(name string, data []byte) api.File {
	return api.File{Name: name, Data: data, Sure: len(data)}
}

// foreign: files as no store makes them: a version of these tables, each a level, a number and its entries.
func foreign(t testing.TB, c api.Config, seq uint64, l ...placed) []api.File {
	t.Helper()
	return pointed(t, c, seq, make([]string, c.Levels), l...)
}

// pointed: the same with pointers.
func pointed(t testing.TB, c api.Config, seq uint64, pointers []string, l ...placed) []api.File {
	t.Helper()
	e := api.Edit{Log: 1, Next: 100, Seq: seq, Pointers: pointers}
	var files []api.File
	for _, x := range l {
		m := table.NewMaker(c)
		var b []byte
		for _, entry := range x.entries {
			more, err := m.Add(entry)
			if err != api.OK {
				t.Fatalf("no table: error %d", err)
			}
			b = append(b, more...)
		}
		more, _ := m.End()
		meta := m.Meta()
		meta.Number = x.number
		e.In = append(e.In, api.Placed{Level: x.level, Table: meta})
		files = append(files, file(nameOf("t", x.number), append(b, more...)))
	}
	return slices.Concat(files, []api.File{file("current", manifest.Current(nameOf("m", 2))), file(nameOf("m", 2), manifest.Bytes(0, e))})
}

type placed struct {
	level   int
	number  uint64
	entries []api.Entry
}

func entry(key string, seq uint64, val string) api.Entry {
	return api.Entry{Key: key, Seq: seq, Val: val}
}

func gone(key string, seq uint64) api.Entry { return api.Entry{Key: key, Seq: seq, Del: true} }
