package open

import (
	"bytes"
	"fmt"
	"math/rand"
	"slices"
	"strings"
	"testing"

	"scree/api"
	"scree/disk"
	"scree/log"
	"scree/manifest"
	"scree/pace"
	"scree/table"
	"scree/version"
)

// conf: a right configuration of small numbers.
var conf = api.Config{
	Clients: 1, Flushers: 1, Compactors: 1, MemBytes: 4096, MaxImm: 1, L0Trigger: 1, L0Slow: 1, L0Stop: 2,
	Levels: 3, Base: 4096, Mult: 2, FileBytes: 2048, Fan: 1, BlockBytes: 64, Restart: 1, BloomBits: 0,
	MaxChunk: 1088, Rate: 1, Burst: 1088, SlowRate: 1, SlowBurst: 17408, MaxGroup: 1088, MaxDebt: 17408,
	DebtStop: 86013, Snapshots: 0, ScanLimit: 1, MaxManifest: 4096,
}

func TestConfIsRight(t *testing.T) {
	if place, err := pace.Check(conf); err != api.OK {
		t.Fatalf("field %d: error %d", place, err)
	}
}

func world(t testing.TB, files ...api.File) *disk.Disk {
	t.Helper()
	d, err := disk.New(0, files)
	if err != api.OK {
		t.Fatalf("no disk: error %d", err)
	}
	return d
}

// run steps an opener till it has ended: how many steps it took, and the last answer.
func run(t testing.TB, o *Opener) (int, bool, api.Errno) {
	t.Helper()
	for n := 1; n < 100_000; n++ {
		if up, err := o.Step(); up || err != api.OK {
			return n, up, err
		}
	}
	t.Fatal("P18.14: it doesn't end")
	return 0, false, api.OK
}

// opened: an opener over a disk that is up.
func opened(t testing.TB, c api.Config, d *disk.Disk) *Opener {
	t.Helper()
	o := New(c, d)
	if _, up, err := run(t, o); !up || err != api.OK {
		t.Fatalf("P18.11: it isn't up: error %d", err)
	}
	return o
}

func file(name string, data []byte) api.File {
	return api.File{Name: name, Data: data, Sure: len(data)}
}

// number12: a name by its kind and number, written by itself.
func number12(kind string, number uint64) string { return fmt.Sprintf("%s-%012d", kind, number) }

// tableFile: a table of these entries as a file, and what is known of it.
func tableFile(t testing.TB, c api.Config, number uint64, l ...api.Entry) (api.File, api.Table) {
	t.Helper()
	m := table.NewMaker(c)
	var b []byte
	for _, e := range l {
		more, err := m.Add(e)
		if err != api.OK {
			t.Fatalf("no table: %v: error %d", e, err)
		}
		b = append(b, more...)
	}
	more, err := m.End()
	if err != api.OK {
		t.Fatalf("no table: error %d", err)
	}
	meta := m.Meta()
	meta.Number = number
	return file(number12("t", number), append(b, more...)), meta
}

// records: a log's bytes of these records.
func records(recs ...[]byte) []byte {
	var b []byte
	for _, rec := range recs {
		b = append(b, log.Append(len(b), rec)...)
	}
	return b
}

// group: a record of batches of writes as texts: `a1 b-` are a put of "1" at a and a delete of b.
func group(first uint64, batches ...string) []byte {
	var l [][]api.Write
	for _, text := range batches {
		var batch []api.Write
		for _, w := range strings.Fields(text) {
			if w[1:] == "-" {
				batch = append(batch, api.Write{Key: w[:1], Del: true})
			} else {
				batch = append(batch, api.Write{Key: w[:1], Val: w[1:]})
			}
		}
		l = append(l, batch)
	}
	return log.Put(first, l)
}

func logFile(number uint64, recs ...[]byte) api.File {
	return file(number12("l", number), records(recs...))
}

// whole: an edit that brings tables in, with the pointers of three levels.
func whole(r api.Roots, in ...api.Placed) api.Edit {
	return api.Edit{Log: r.Log, Next: r.Next, Seq: r.Seq, In: in, Pointers: make([]string, conf.Levels)}
}

// rooted: current and the manifest that it names.
func rooted(number uint64, l ...api.Edit) []api.File {
	return []api.File{
		file("current", manifest.Current(number12("m", number))),
		file(number12("m", number), manifest.Bytes(0, l...)),
	}
}

// with: files and more of them.
func with(files []api.File, more ...api.File) []api.File { return append(slices.Clone(files), more...) }

// listed: the names of a disk's files, those of a store written short: `l-1`.
func listed(files []api.File) string {
	var l []string
	for _, f := range files {
		l = append(l, short(f.Name))
	}
	return strings.Join(l, " ")
}

func short(name string) string {
	if len(name) == 14 && name[1] == '-' {
		return name[:2] + strings.TrimLeft(name[2:13], "0") + name[13:]
	}
	return name
}

// find: a file of a list by its name; false: there is none.
func find(files []api.File, name string) (api.File, bool) {
	i := slices.IndexFunc(files, func(f api.File) bool { return f.Name == name })
	if i < 0 {
		return api.File{}, false
	}
	return files[i], true
}

func sameFile(a, b api.File) bool {
	return a.Name == b.Name && bytes.Equal(a.Data, b.Data) && a.Sure == b.Sure
}

// sameDisks holds two disks against each other: all files, what is sure of them, and what falls would leave.
func sameDisks(a, b *disk.Disk) bool {
	for dir := range 12 {
		if !sameFall(a, b, dir) {
			return false
		}
	}
	return sameFiles(a, b)
}

func sameFiles(a, b *disk.Disk) bool { return slices.EqualFunc(a.Files(), b.Files(), sameFile) }

// sameFall holds what one fall would leave of two disks against each other.
func sameFall(a, b *disk.Disk, dir int) bool {
	return slices.EqualFunc(a.Image(dir, []int{3}), b.Image(dir, []int{3}), sameFile)
}

// held: the entries of a table's file.
func held(t testing.TB, d *disk.Disk, x api.Table) []api.Entry {
	t.Helper()
	b, err := d.Read(number12("t", x.Number))
	if err != api.OK {
		t.Fatalf("P18.7: no file of table %d: error %d", x.Number, err)
	}
	k, err := table.Open(b)
	if err != api.OK {
		t.Fatalf("P18.7: table %d can't be read: error %d", x.Number, err)
	}
	meta := k.Meta()
	meta.Number = x.Number
	if meta != x {
		t.Errorf("P18.7: the version says %v of %v", x, meta)
	}
	return slices.Collect(k.From(""))
}

// entryText: `a5=1`, and of a delete `a5-`.
func entryText(e api.Entry) string {
	if e.Del {
		return fmt.Sprintf("%s%d-", e.Key, e.Seq)
	}
	return fmt.Sprintf("%s%d=%s", e.Key, e.Seq, e.Val)
}

// levelText: the tables of a level, with their entries: `3: a1=x b2- | 4: ..`.
func levelText(t testing.TB, d *disk.Disk, s *version.Set, level int) string {
	t.Helper()
	var l []string
	for _, x := range s.Current().Tables(level) {
		text := fmt.Sprint(x.Number, ":")
		for _, e := range held(t, d, x) {
			text += " " + entryText(e)
		}
		l = append(l, text)
	}
	return strings.Join(l, " | ")
}

// meaning: the map that a version means: of each key the newest entry of its tables, of several of one number that of the newest table.
func meaning(t testing.TB, d *disk.Disk, s *version.Set) map[string]string {
	t.Helper()
	newest := map[string]api.Entry{}
	for level := range s.Current().Levels() {
		tables := s.Current().Tables(level)
		if level == 0 {
			slices.Reverse(tables)
		}
		for _, x := range tables {
			for _, e := range held(t, d, x) {
				if was, ok := newest[e.Key]; !ok || e.Seq > was.Seq {
					newest[e.Key] = e
				}
			}
		}
	}
	m := map[string]string{}
	for key, e := range newest {
		if !e.Del {
			m[key] = e.Val
		}
	}
	return m
}

func one[T any](r *rand.Rand, l ...T) T { return l[r.Intn(len(l))] }

// enough holds the cases that came up to be the ones that are wanted.
func enough(t *testing.T, seen map[string]int, wanted ...string) {
	t.Helper()
	for _, what := range wanted {
		if seen[what] < 10 {
			t.Errorf("the cases are too few to tell anything: %s: %d", what, seen[what])
		}
	}
}
