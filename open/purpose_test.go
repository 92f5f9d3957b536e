package open

import (
	"fmt"
	"maps"
	"math/rand"
	"runtime"
	"slices"
	"strings"
	"testing"

	"scree/api"
	"scree/disk"
	"scree/pace"
	"scree/table"
)

// logMeaning: the map that a directory means, read by itself: its tables' and its wanted logs' entries.
func logMeaning(t testing.TB, m *model) map[string]string {
	t.Helper()
	var sources [][]api.Entry
	for _, name := range m.logs {
		b, _ := m.data(name)
		l, right := logEntries(b)
		sources = append(sources, l)
		if !right {
			break
		}
	}
	slices.Reverse(sources)
	for level := range m.set.Current().Levels() {
		tables := m.set.Current().Tables(level)
		if level == 0 {
			slices.Reverse(tables)
		}
		for _, x := range tables {
			// Those that logs become aren't there yet.
			if b, ok := m.data(number12("t", x.Number)); ok {
				k, err := table.Open(b)
				if err != api.OK {
					t.Fatalf("no table: error %d", err)
				}
				sources = append(sources, slices.Collect(k.From("")))
			}
		}
	}
	newest := map[string]api.Entry{}
	for _, l := range sources {
		for _, e := range l {
			if was, ok := newest[e.Key]; !ok || e.Seq > was.Seq {
				newest[e.Key] = e
			}
		}
	}
	pairs := map[string]string{}
	for key, e := range newest {
		if !e.Del {
			pairs[key] = e.Val
		}
	}
	return pairs
}

// comesTo holds an opener over a disk to be up, with a map.
func comesTo(t *testing.T, what string, c api.Config, d *disk.Disk, want map[string]string) {
	t.Helper()
	o := New(c, d)
	if _, up, err := run(t, o); !up || err != api.OK {
		t.Fatalf("P18.13: %s: %v, error %d: %s", what, up, err, listed(d.Files()))
	}
	s, _ := o.State()
	if got := meaning(t, d, s); !maps.Equal(got, want) {
		t.Fatalf("P18.13: %s: %d pairs, want %d: %s", what, len(got), len(want), listed(d.Files()))
	}
}

// TestEveryFall: falls at every unit of a coming up over a small directory, with each first part of the directory's changes surviving.
func TestEveryFall(t *testing.T) {
	f, meta := tableFile(t, conf, 1, api.Entry{Key: "a", Seq: 1, Val: "x"}, api.Entry{Key: "c", Seq: 2, Val: "y"})
	torn := logFile(6, group(7, "d4"), group(8, "e5"))
	torn.Data = torn.Data[:len(torn.Data)-2]
	torn.Sure = len(torn.Data)
	files := with(rooted(2, whole(api.Roots{Log: 3, Seq: 2}, api.Placed{Level: 1, Table: meta})), f,
		logFile(3, group(3, "a- b2")), logFile(5, group(5, "b3 b4")), torn, logFile(7, group(9, "f6")), logFile(0, group(1, "z9")), file("new", []byte("n")))
	want := map[string]string{"b": "4", "c": "y", "d": "4"}
	falls := 0
	for unit := 1; ; unit++ {
		fell := false
		for dir := range 8 {
			d := world(t, files...)
			d.Arm(unit)
			_, up, err := run(t, New(conf, d))
			if up {
				break
			}
			if err != api.ErrDiskDown {
				t.Fatalf("P18.2: unit %d: error %d", unit, err)
			}
			fell = true
			falls++
			d.Fall(dir, []int{unit % 5, 1000, 0})
			comesTo(t, fmt.Sprintf("a fall at unit %d, %d changes stay", unit, dir), conf, d, want)
		}
		if !fell {
			break
		}
	}
	if falls < 500 {
		t.Errorf("the cases are too few to tell anything: %d falls", falls)
	}
	comesTo(t, "no fall", conf, world(t, files...), want)
}

// TestFallsAndFaults: several falls and faults, one coming up behind the other, over many directories.
func TestFallsAndFaults(t *testing.T) {
	r := rand.New(rand.NewSource(1813))
	seen := map[string]int{}
	for range 1200 {
		c := anyConfig(r)
		files := anyRight(t, r, c)
		m := newModel(t, c, world(t, files...).Files())
		want := logMeaning(t, m)
		comesTo(t, "without a fall", c, world(t, files...), want)
		costs := m.costs(world(t, files...))
		units := 0
		for _, cost := range costs {
			units += cost
		}
		d := world(t, files...)
		for range 1 + r.Intn(6) {
			if r.Intn(3) == 0 {
				d.Fail(r.Intn(len(costs)), 1+r.Intn(3), r.Intn(60))
			} else {
				d.Arm(1 + r.Intn(units+20))
			}
			_, up, err := run(t, New(c, d))
			seen[fmt.Sprintf("%v %d", up, int(err))]++
			d.Arm(0)
			d.Fail(0, 0, 0)
			if d.Down() || r.Intn(3) == 0 {
				d.Fall(r.Intn(9), []int{r.Intn(40), r.Intn(700), one(r, -1, 0, 1000)})
			}
		}
		comesTo(t, "behind falls and faults", c, d, want)
		comesTo(t, "once more", c, d, want)
	}
	enough(t, seen, "true 0", "false 30", "false 31")
}

// TestHowLong: no coming up needs more steps than are said.
func TestHowLong(t *testing.T) {
	r := rand.New(rand.NewSource(1814))
	most := 0.0
	held := func(c api.Config, files []api.File) {
		d := world(t, files...)
		m := newModel(t, c, d.Files())
		names := 0
		for _, f := range files {
			if storeName.MatchString(f.Name) {
				names++
			}
		}
		bound := 2*names + len(m.logs)*pace.TF(c, m.heavy) + 16
		n, _, _ := run(t, New(c, d))
		if n > bound {
			t.Errorf("P18.14: %d steps, at most %d: %s", n, bound, listed(files))
		}
		most = max(most, float64(n)/float64(bound))
	}
	for range 2000 {
		c := anyConfig(r)
		held(c, anyFiles(t, r, c))
	}
	// A heavy log, and many names.
	var recs [][]byte
	for i := range 100 {
		recs = append(recs, group(uint64(i*16), strings.Repeat(fmt.Sprintf("%c%s ", 'a'+i%26, strings.Repeat("v", 512)), 16)))
	}
	files := with(rooted(2, whole(api.Roots{Log: 3})), logFile(3, recs...))
	held(conf, files)
	for n := range 200 {
		files = append(files, file(number12("t", uint64(n)), nil))
	}
	held(conf, files)
	if most < 0.4 {
		t.Errorf("the bound is far from all of them: %v", most)
	}
}

// TestRefusedAgain: what an opener refuses in stages 1 and 2, the next one refuses, too, and nothing was done by then; whatever the files are, it ends.
func TestRefusedAgain(t *testing.T) {
	r := rand.New(rand.NewSource(1815))
	seen := map[string]int{}
	for range 3000 {
		c := anyConfig(r)
		files := anyFiles(t, r, c)
		for range r.Intn(3) {
			f := &files[r.Intn(len(files))]
			b := make([]byte, r.Intn(60))
			r.Read(b)
			if r.Intn(2) == 0 && len(f.Data) > 0 {
				b = slices.Clone(f.Data)
				b[r.Intn(len(b))] ^= byte(r.Intn(256))
			}
			f.Data, f.Sure = b, min(f.Sure, len(b))
		}
		d := world(t, files...)
		o := New(c, d)
		before := d.Files()
		_, up, err := run(t, o)
		seen[fmt.Sprint(up)]++
		if up || err == api.ErrOpenNumber && !slices.EqualFunc(before, d.Files(), sameFile) {
			continue
		}
		if !slices.EqualFunc(before, d.Files(), sameFile) {
			t.Fatalf("P18.15: error %d, and the disk was changed", err)
		}
		if _, up, again := run(t, New(c, d)); up || again != err {
			t.Fatalf("P18.15: error %d, then %v, error %d", err, up, again)
		}
	}
	enough(t, seen, "true", "false")
}

// TestLetsGo: what the steps held is kept no longer than till they are done.
func TestLetsGo(t *testing.T) {
	var l []string
	for i := range 16 {
		l = append(l, fmt.Sprintf("%c%s", 'a'+i, strings.Repeat("v", 512)))
	}
	var recs [][]byte
	for i := range 300 {
		recs = append(recs, group(uint64(i*16), strings.Join(l, " ")))
	}
	files := with(rooted(2, whole(api.Roots{Log: 3})), logFile(3, recs...))
	memory := func() int {
		runtime.GC()
		var s runtime.MemStats
		runtime.ReadMemStats(&s)
		return int(s.HeapAlloc)
	}
	d := world(t, files...)
	files = nil
	before := memory()
	o := New(conf, d)
	for {
		o.Step()
		if _, ok := find(d.Files(), number12("l", 5)); ok {
			break
		}
	}
	if grown := memory() - before; grown > 500_000 {
		t.Errorf("rule 8: behind its flush a log's memtable is kept: %d bytes", grown)
	}
	for _, do := range o.left[len(o.left):cap(o.left)] {
		if do != nil {
			t.Errorf("rule 8: a step is kept that was done")
		}
	}
	run(t, o)
	if o.d != nil || o.left != nil || o.tables != nil {
		t.Errorf("rule 8: an opener that is up keeps more than its state")
	}
	runtime.KeepAlive(d)
}
