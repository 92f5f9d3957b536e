package store

import (
	"fmt"
	"math"
	"math/rand"
	"slices"
	"strings"
	"testing"

	"scree/api"
	"scree/manifest"
	"scree/pace"
)

func TestConfigurationsAreRight(t *testing.T) {
	for _, c := range []api.Config{small, wide, tight} {
		if place, err := pace.Check(c); err != api.OK {
			t.Errorf("field %d: error %d", place, err)
		}
	}
}

// TestNew: P19.1.
func TestNew(t *testing.T) {
	wrong := small
	wrong.MaxManifest = 0
	twice := []api.File{file("a", nil), file("a", nil)}
	for _, x := range []struct {
		c     api.Config
		room  int
		files []api.File
		want  api.Errno
	}{
		{api.Config{}, 0, nil, api.ErrConfig},
		{wrong, 0, nil, api.ErrConfig},
		{wrong, -1, twice, api.ErrConfig},
		{small, -1, nil, api.ErrDiskFiles},
		{small, math.MinInt, nil, api.ErrDiskFiles},
		{small, 0, twice, api.ErrDiskFiles},
		{small, 2, []api.File{file("a", []byte("123"))}, api.ErrDiskFiles},
		{small, 0, []api.File{{Name: "a", Sure: 1}}, api.ErrDiskFiles},
		{small, 0, []api.File{file("A", nil)}, api.ErrDiskFiles},
	} {
		if s, err := New(x.c, x.room, x.files, nil); s != nil || err != x.want {
			t.Errorf("P19.1: room %d, files %v: %v, error %d, want %d", x.room, x.files, s != nil, err, x.want)
		}
	}
	w := over(t, small)
	w.is("P19.1: a new store", w.Status(), api.Status{})
	w.is("P19.1: the levels of a new store", len(w.Levels()), 0)
	w.is("P19.1: its files", w.names(), "")
}

// TestNothingIsKept: what is handed in may be changed behind the call, and so may what is answered.
func TestNothingIsKept(t *testing.T) {
	files := []api.File{{Name: "other", Data: append(make([]byte, 0, 20), "abc"...), Sure: 2}}
	draws := []byte{1, 2, 3}
	s, err := New(wide, 0, files, draws)
	if err != api.OK {
		t.Fatalf("P19.1: error %d", err)
	}
	w := hand{s, t}
	files[0].Data[0], files[0].Name, draws[0] = 'x', "gone", 77
	w.is("a file", string(w.bytesOf("other")), "abc")
	w.goesUp()
	op := synced(put("a", "1", "b", "2"))
	w.gets(0, op, "take")
	op.Writes[0], op.Writes[1].Val = api.Write{Key: "z", Del: true}, "9"
	w.does(0, "admit lead append sync insert publish done")
	w.is("what was written", w.reads(scan("", "", 9)), "done=a:1,b:2")
	w.fills("c", "d", "e", "f", "g")
	w.gets(1, put("h", "8"), "take")
	w.gets(2, put("i", "9"), "take")
	w.does(1, "admit")
	w.works(4)
	w.does(1, "lead")
	w.gets(3, put("j", "9"), "take") // it stands in the line
	w.c.L0Trigger = 1
	w.does(6, "claim")
	before, levels, names, image := w.Status(), w.tables(), w.names(), fmt.Sprint(w.Image(9, nil))
	x := w.Status()
	x.Line[0], x.Queue[0], x.Jobs[0].Upper[0].Number = 99, 98, 97
	_ = append(x.Line, 5)
	_ = append(x.Queue, 5)
	for _, l := range w.Levels() {
		for i := range l {
			l[i].Number = 999
		}
		_ = append(l, api.Table{})
	}
	for _, f := range append(w.Files(), w.Image(9, nil)...) {
		for i := range f.Data {
			f.Data[i] = 7
		}
		_ = append(f.Data, 1, 2, 3)
	}
	w.is("the status", w.Status(), before)
	w.is("the levels", w.tables(), levels)
	w.is("the files", w.names(), names)
	w.is("the image", fmt.Sprint(w.Image(9, nil)), image)
}

// TestMachines: P19.2.
func TestMachines(t *testing.T) {
	w := over(t, wide)
	for _, k := range []int{-1, 9, 10, math.MaxInt, math.MinInt} {
		w.does(k, "nothing")
	}
	for k := range 8 {
		w.does(k, "idle idle")
	}
	w.does(8, "4*open up idle idle")
	for k := range 9 {
		w.does(k, "idle idle")
	}
	for _, k := range []int{-1, 9, math.MaxInt, math.MinInt} {
		w.does(k, "nothing")
	}
	// Of a frozen memtable the flushers, of level 0 the compactors have something to do.
	w.fills("a", "b", "c", "d", "e")
	w.writes(put("f", "1"))
	w.does(6, "idle")
	w.does(5, "claim")
	w.does(4, "idle")
	w = upOver(t, small)
	w.fills("a", "b", "c", "d", "e")
	w.flushes("f", "1")
	w.does(2, "idle")
	w.does(3, "claim")
}

// TestSubmit: the order of what a Submit answers.
func TestSubmit(t *testing.T) {
	long, value := strings.Repeat("k", 65), big+"v"
	w := over(t, small)
	w.gets(0, put("a", "1"), "refused!190")
	w.gets(7, api.Op{}, "refused!190")
	w.does(4, "open")
	w.gets(0, put("a", "1"), "refused!190")
	w.does(4, "3*open up")
	w.gets(2, api.Op{}, "refused!191")
	w.gets(-1, put("a", "1"), "refused!191")
	w.gets(math.MinInt, put("a", "1"), "refused!191")
	for _, kind := range []int{0, 7, -1, math.MaxInt} {
		w.gets(0, api.Op{Kind: kind, Key: "a"}, "refused!197")
	}
	w.gets(0, api.Op{Kind: api.OpWrite, Writes: make([]api.Write, 17)}, "refused!13")
	w.gets(0, put("a", value, "", ""), "refused!12")
	w.gets(0, put("", value), "refused!10")
	w.gets(0, put(long, value), "refused!11")
	w.gets(0, api.Op{Kind: api.OpWrite, Key: long, To: long, N: -1, Snap: 9}, "done")
	w.gets(0, get(""), "refused!10")
	w.gets(0, of(1, get(long)), "refused!11")
	w.gets(0, of(1, get("a")), "refused!194")
	w.gets(0, of(-1, get("a")), "refused!194")
	w.gets(0, of(1, scan(long, "", 0)), "refused!11")
	w.gets(0, of(1, scan("", long, 0)), "refused!11")
	w.gets(0, of(1, scan("", "", 0)), "refused!196")
	w.gets(0, of(1, scan("", "", 3)), "refused!196")
	w.gets(0, of(1, scan("", "", -1)), "refused!196")
	w.gets(0, of(1, scan("", "", 2)), "refused!194")
	w.gets(0, release(0), "refused!194")
	w.gets(0, release(1), "refused!194")
	w.does(0, "idle")
	// What may be just so: 64 bytes of key, 512 of value, 16 writes, ScanLimit pairs.
	key := long[1:]
	var all []string
	for range 16 {
		all = append(all, key, big)
	}
	w.gets(0, put(all...), "take")
	w.gets(0, api.Op{}, "nothing")
	w.gets(0, put("", ""), "nothing")
	w.gets(2, put("", ""), "refused!191")
	w.gets(1, scan(key, key, 2), "take")
	w.does(1, "pin done")
	w.gets(1, get(key), "take")
	w.gets(1, api.Op{Kind: api.OpWrite}, "nothing")
	w.does(1, "pin done idle")
	// Of fields that a kind doesn't use nothing is looked at.
	w.does(0, "admit lead append insert publish done")
	w.gets(0, api.Op{Kind: api.OpSync, Writes: make([]api.Write, 99), Key: long, To: long, N: 99, Snap: 9}, "take")
	w.does(0, "admit lead sync publish done")
	w.gets(0, api.Op{Kind: api.OpSnap, Writes: make([]api.Write, 99), Key: long, To: long, N: 99, Snap: 9}, "take")
	w.does(0, "done=snap1")
	w.gets(0, api.Op{Kind: api.OpGet, Writes: make([]api.Write, 99), Sync: true, Key: "b", To: long, N: 99, Snap: 1}, "take")
	w.does(0, "pin done")
	w.gets(0, api.Op{Kind: api.OpScan, Writes: make([]api.Write, 99), Sync: true, N: 1, Snap: 1}, "take")
	w.does(0, "pin done="+key+":"+big)
	w.gets(0, api.Op{Kind: api.OpRelease, Writes: make([]api.Write, 99), Sync: true, Key: long, To: long, N: 99, Snap: 1}, "take")
	w.does(0, "done")
	w.gets(0, api.Op{Kind: api.OpWrite, Writes: put("b", "2").Writes, Key: long, To: long, N: 99, Snap: 9}, "take")
	w.does(0, "admit lead switch append insert publish done")
	// A batch without writes that asks for sync is a Sync.
	w.gets(0, synced(put()), "take")
	w.does(0, "admit lead sync publish done idle")
}

// TestAnotherLife: P19.4: what a fall takes away.
func TestAnotherLife(t *testing.T) {
	w := upOver(t, wide)
	w.fills("a", "b", "c", "d", "e")
	w.writes(put("f", "1"))
	w.does(4, "claim fill")
	w.gets(0, snapOp, "take")
	w.does(0, "done=snap1")
	w.gets(0, get("zz"), "take")
	w.does(0, "pin")
	w.gets(1, put("g", "1"), "take")
	w.does(1, "admit lead append")
	w.gets(2, put("h", "1"), "take")
	w.does(2, "admit")
	w.gets(3, put("i", "1"), "take")
	w.Step(api.Step{Kind: api.StepTick})
	x := w.Status()
	w.is("lines, jobs, pins", fmt.Sprint(x.Line, x.Queue, len(x.Jobs), x.Pins, x.Snapshots, x.Frozen), "[3] [1 2] 1 1 1 1")
	w.falls(99, 1<<30)
	w.is("P19.19: down", w.Status(), api.Status{Clock: 1})
	for k := range 8 {
		w.does(k, "idle")
	}
	w.goesUp()
	x = w.Status()
	w.is("P19.4: up again", x, api.Status{Up: true, Clock: 1, Seq: 7, Load: x.Load, Tokens: 1 << 20, Slow: 17408})
	w.is("P19.4: nothing but tables", x.Load, 5*962+451+451)
	for k := range 9 {
		w.does(k, "idle")
	}
	w.gets(0, release(1), "refused!194")
	w.is("P19.4: what was laid down", w.reads(scan("f", "", 9)), "done=f:1,g:1")
	w.gets(1, snapOp, "take")
	w.does(1, "done=snap1")
}

// TestDown: P19.5.
func TestDown(t *testing.T) {
	w := over(t, small)
	w.does(4, "open open")
	w.Step(api.Step{Kind: api.StepArm, A: 2})
	w.does(4, "fall!30 idle idle")
	for k := range 5 {
		w.does(k, "idle")
	}
	w.does(5, "nothing")
	w.gets(0, put("a", "1"), "refused!190")
	w.is("P19.5: still down", text(w.Step(api.Step{Kind: api.StepTick})), "tick")
	w.does(4, "idle")
	w.falls(0)
	w.does(4, "4*open up idle")
	// A fall within a coming up: it begins anew.
	w.falls(0)
	w.does(4, "3*open")
	w.falls(0)
	w.is("P19.5: its files", w.names(), "current l-1 m-2")
	w.does(4, "7*open up")
	w.is("P19.5: its files", w.names(), "current l-3 m-4")
	// A step that falls while the store is up.
	w.gets(0, put("a", "1"), "take")
	w.does(0, "admit lead")
	w.Step(api.Step{Kind: api.StepArm, A: 1})
	w.does(0, "fall!30 idle")
	w.does(4, "idle")
	w.gets(0, put("a", "1"), "refused!190")
	w.is("P19.19: fallen", w.Status(), api.Status{Clock: 1})
	w.is("P19.19: its levels", len(w.Levels()), 0)
	w.is("P19.19: its files are told", w.names(), "current l-3 m-4")
	w.is("P19.19: and what a fall would leave", len(w.Image(0, nil)), 5) // the deletes of the last coming up aren't sure
	w.falls(0)
	w.does(4, "9*open up") // they are orphans now
}

// TestRefused: P19.6.
func TestRefused(t *testing.T) {
	w := over(t, small, file("current", []byte{0, 0, 0}), file("other", []byte("x")))
	w.does(4, "refused!140 refused!140 refused!140")
	w.does(0, "idle")
	w.falls(0)
	w.does(4, "refused!140")
	w.is("P19.6: the files", w.names(), "current other")
	w = over(t, small, file("current", manifest.Current(nameOf("m", 2))))
	w.does(4, "refused!141 refused!141")
	w.gets(0, put("a", "1"), "refused!190")
	// A fault in a coming up is refused, too; the next one begins anew.
	w = over(t, small)
	w.fails(2, 1, 0)
	w.does(4, "open open refused!31 5*open up")
	w.is("P19.6: the files", w.names(), "current l-2 m-3")
	// So is a table that isn't as it should be, found behind the reading.
	files := foreign(t, small, 9, placed{1, 5, []api.Entry{entry("a", 1, "x")}})
	files[0].Data[0]++
	w = over(t, small, files...)
	w.does(4, "open refused!103 open refused!103")
}

// TestStep: P19.18.
func TestStep(t *testing.T) {
	w := over(t, small)
	step := func(x api.Step, want string) {
		t.Helper()
		w.is(fmt.Sprintf("P19.18: %+v", x), text(w.Step(x)), want)
	}
	for _, kind := range []int{0, -1, 7, math.MaxInt, math.MinInt} {
		step(api.Step{Kind: kind, A: 4}, "nothing")
	}
	step(api.Step{Kind: api.StepSubmit, A: 0, Op: put("a", "1")}, "refused!190")
	step(api.Step{Kind: api.StepTick, A: 7}, "tick")
	step(api.Step{Kind: api.StepTick}, "tick")
	w.is("P19.18: ticks go on while it is down", w.Status(), api.Status{Clock: 2})
	for range 4 {
		step(api.Step{Kind: api.StepMachine, A: 4}, "open")
	}
	step(api.Step{Kind: api.StepMachine, A: 4}, "up")
	step(api.Step{Kind: api.StepMachine, A: 5}, "nothing")
	w.is("P19.18: full buckets", fmt.Sprint(w.Status().Tokens, w.Status().Slow), "1088 17408")
	step(api.Step{Kind: api.StepSubmit, A: 1, Op: put("a", "1")}, "take")
	step(api.Step{Kind: api.StepMachine, A: 1}, "admit")
	step(api.Step{Kind: api.StepFail, A: 1, B: 1, C: 5}, "rig")
	step(api.Step{Kind: api.StepArm, A: 3}, "rig")
	step(api.Step{Kind: api.StepFall, A: 0, Keep: []int{1}}, "fall")
	w.is("P19.18: down", w.Status(), api.Status{Clock: 2})
	// The fall has taken away what was rigged.
	w.does(4, "7*open up")
	for _, n := range []int{math.MinInt, -1, math.MaxInt} {
		step(api.Step{Kind: api.StepFail, A: 1 << 40, B: n, C: n}, "rig")
		step(api.Step{Kind: api.StepArm, A: n}, "rig")
		step(api.Step{Kind: api.StepMachine, A: n}, "nothing")
		step(api.Step{Kind: api.StepSubmit, A: n}, "refused!191")
		step(api.Step{Kind: api.StepFall, A: n, Keep: []int{n, n}}, "fall")
		w.goesUp()
	}
	// Fail's numbers as they are handed in: one call goes well, the next two fail, five bytes are laid.
	step(api.Step{Kind: api.StepFail, A: 1, B: 2, C: 5}, "rig")
	step(api.Step{Kind: api.StepSubmit, A: 1, Op: put("a", "1")}, "take")
	w.does(1, "admit lead append insert publish done")
	step(api.Step{Kind: api.StepSubmit, A: 1, Op: put("b", "1")}, "take")
	name := ""
	for _, f := range w.Files() {
		if f.Name[0] == 'l' {
			name = f.Name
		}
	}
	long := len(w.bytesOf(name))
	w.does(1, "admit lead readonly!31 done!193")
	w.is("P19.18: bytes of a failed append", len(w.bytesOf(name))-long, 5)
	// What a fall keeps.
	step(api.Step{Kind: api.StepFall, A: 0, Keep: []int{0}}, "fall")
	w.is("P19.18: nothing unsure is left", len(w.bytesOf(name)), 0)
}

// TestDraws: P19.20: whatever the draws are, the store answers the same.
func TestDraws(t *testing.T) {
	t.Parallel()
	for n := range 10 {
		r := rand.New(rand.NewSource(int64(9900 + n)))
		c := anyConfig(r)
		p := newPlay(t, c, 0, nil, nil)
		p.comeUp()
		h := anyChance(r, c)
		h.faults, h.falls = 5, 5
		p.goOn(r, h, 1500)
		draws := make([]byte, r.Intn(9))
		r.Read(draws)
		a, _ := New(c, 0, nil, nil)
		b, _ := New(c, 0, nil, draws)
		for i, x := range p.steps {
			if one, two := a.Step(x), b.Step(x); !same(one, two) {
				t.Fatalf("P19.20: step %d: %s and %s", i, text(one), text(two))
			}
			// Asking changes nothing of what is answered next.
			for range r.Intn(3) {
				b.Status()
				b.Levels()
				b.Files()
				b.Image(r.Intn(5), []int{r.Intn(99)})
				b.Do(-1)
				b.Step(api.Step{})
			}
		}
		if !sameFiles(a.Files(), b.Files()) || !sameStatus(a.Status(), b.Status()) {
			t.Fatalf("P19.20: two stores aren't alike")
		}
	}
}

// TestForeign: over files that no store made: the same against the model, but no promise about the whole.
func TestForeign(t *testing.T) {
	t.Parallel()
	seen := map[string]int{}
	for n := range 60 {
		r := rand.New(rand.NewSource(int64(10900 + n)))
		c := anyConfig(r)
		p := newPlay(t, c, 0, anyForeign(t, r, c), nil)
		p.watch = nil
		if p.comeUp().Did != api.DidUp {
			t.Fatal("the files are right")
		}
		h := anyChance(r, c)
		h.keys, h.reads, h.falls = 40, 5, 5
		p.goOn(r, h, 1000)
		for k, v := range p.seen {
			seen[k] += v
		}
	}
	needs(t, seen, "up install look done")
}

// anyForeign: tables of any entries, numbered as they like.
func anyForeign(t testing.TB, r *rand.Rand, c api.Config) []api.File {
	h := chance{keys: 40, heavy: 3}
	var l []placed
	for level := range c.Levels {
		var keys []string
		for range r.Intn(30) {
			keys = append(keys, h.key(r))
		}
		slices.Sort(keys)
		keys = slices.Compact(keys)
		for len(keys) > 0 {
			x := placed{level: level, number: uint64(3 + len(l))}
			n := 1 + r.Intn(min(len(keys), 6))
			for _, key := range keys[:n] {
				e := api.Entry{Key: key, Seq: one(r, 0, 5, uint64(r.Intn(50)), 1<<56-1), Del: r.Intn(4) == 0}
				if !e.Del {
					e.Val = h.val(r, r.Intn(1000))
				}
				x.entries = append(x.entries, e)
			}
			l = append(l, x)
			if keys = keys[n:]; level == 0 && r.Intn(2) == 0 {
				keys = nil
			}
		}
	}
	files := foreign(t, c, uint64(r.Intn(60)), l...)
	return append(files, file("other", []byte("x")), file("t-000000000001", nil), file("new", []byte("n")))
}
