package open

import (
	"fmt"
	"math"
	"slices"
	"strings"
	"testing"

	"scree/api"
	"scree/disk"
	"scree/log"
	"scree/manifest"
	"scree/version"
)

// isState holds what an opener that is up begins with.
func isState(t *testing.T, what string, o *Opener, want api.Roots) *version.Set {
	t.Helper()
	s, roots := o.State()
	if s == nil || roots != want {
		t.Fatalf("P18.12: %s: %v, %+v, want %+v", what, s, roots, want)
	}
	return s
}

// isRefused holds an opener to be refused with an error at a step, again and again, nothing of the disk being changed.
func isRefused(t *testing.T, what string, files []api.File, steps int, want api.Errno) {
	t.Helper()
	d := world(t, files...)
	for again := range 2 {
		o := New(conf, d)
		n, up, err := run(t, o)
		if up || err != want || n != steps {
			t.Errorf("%s: opener %d: %v, error %d at step %d, want error %d at step %d", what, again, up, err, n, want, steps)
			return
		}
		if up, err := o.Step(); up || err != want {
			t.Errorf("P18.2: %s: again: %v, error %d, want %d", what, up, err, want)
		}
		if s, roots := o.State(); s != nil || roots != (api.Roots{}) {
			t.Errorf("P18.12: %s: a state of a refused opener: %+v", what, roots)
		}
	}
	if !sameDisks(d, world(t, files...)) {
		t.Errorf("P18.2: %s: the disk was changed: %s", what, listed(d.Files()))
	}
}

func TestExamples(t *testing.T) {
	d := world(t)
	o := New(conf, d)
	if n, up, err := run(t, o); n != 5 || !up || err != api.OK {
		t.Errorf("example 1: %d steps, %v, error %d", n, up, err)
	}
	s := isState(t, "example 1", o, api.Roots{Log: 1, Next: 3, Manifest: 2})
	if got := listed(d.Files()); got != "current l-1 m-2" {
		t.Errorf("example 1: %s", got)
	}
	if f, _ := find(d.Files(), number12("l", 1)); len(f.Data) != 0 {
		t.Errorf("example 1: the log has %d bytes", len(f.Data))
	}
	for level := range conf.Levels {
		if len(s.Current().Tables(level)) != 0 {
			t.Errorf("example 1: level %d has a table", level)
		}
	}
	if s.Current().Levels() != conf.Levels {
		t.Errorf("P18.3: %d levels", s.Current().Levels())
	}
	o = New(conf, d)
	if n, up, err := run(t, o); n != 8 || !up || err != api.OK {
		t.Errorf("example 2: %d steps, %v, error %d", n, up, err)
	}
	isState(t, "example 2", o, api.Roots{Log: 3, Next: 5, Manifest: 4})
	if got := listed(d.Files()); got != "current l-3 m-4" {
		t.Errorf("example 2: %s", got)
	}
}

// TestEnds: what is told ahead of the end, at it, and behind it.
func TestEnds(t *testing.T) {
	d := world(t)
	o := New(conf, d)
	if s, roots := o.State(); s != nil || roots != (api.Roots{}) || len(d.Files()) != 0 {
		t.Errorf("P18.12: ahead of the first step: %v, %+v", s, roots)
	}
	for range 4 {
		if up, err := o.Step(); up || err != api.OK {
			t.Fatalf("P18.2: %v, error %d", up, err)
		}
		if s, roots := o.State(); s != nil || roots != (api.Roots{}) {
			t.Errorf("P18.12: ahead of the end: %v, %+v", s, roots)
		}
	}
	before := d.Files()
	var first *version.Set
	for i := range 3 {
		// A rig would meet any call that is made now.
		d.Fail(0, 1, 0)
		if up, err := o.Step(); !up || err != api.OK {
			t.Errorf("P18.11: %v, error %d", up, err)
		}
		s := isState(t, "up", o, api.Roots{Log: 1, Next: 3, Manifest: 2})
		if i == 0 {
			first = s
		}
		if s != first {
			t.Errorf("P18.12: not the same set")
		}
		if d.SyncDir() != api.ErrDiskFault {
			t.Errorf("P18.11: a call of the disk behind the end")
		}
	}
	if !slices.EqualFunc(before, d.Files(), sameFile) {
		t.Errorf("P18.11: the disk was changed behind the end")
	}
}

// TestOtherNames: files of other names are neither counted, read, made sure nor deleted.
func TestOtherNames(t *testing.T) {
	var others []api.File
	for _, name := range []string{"currents", "curren", "new1", "ne", "news", "l-99999999999", "l-9999999999999", "t-99999999999a", "x-999999999999", "m999999999999", "l--99999999999", "t-", "0", "m-000000000002-"} {
		others = append(others, api.File{Name: name, Data: []byte(name + name), Sure: 2})
	}
	for _, own := range [][]api.File{nil, rooted(7, whole(api.Roots{Log: 1}))} {
		d := world(t, with(own, others...)...)
		o := New(conf, d)
		n, up, err := run(t, o)
		want, next := 5, uint64(1)
		if own != nil {
			want, next = 6, 8
		}
		if n != want || !up || err != api.OK {
			t.Fatalf("P18.1: %d steps, want %d: %v, error %d", n, want, up, err)
		}
		isState(t, "others", o, api.Roots{Log: next, Next: next + 2, Manifest: next + 1})
		for _, f := range others {
			if got, ok := find(d.Files(), f.Name); !ok || !sameFile(got, f) {
				t.Errorf("P18.1: %s was touched", f.Name)
			}
		}
		if len(d.Files()) != len(others)+3 {
			t.Errorf("P18.1: %s", listed(d.Files()))
		}
	}
}

func TestDown(t *testing.T) {
	for _, files := range [][]api.File{nil, {file("current", nil)}, {file("l-999999999999", nil)}} {
		d := world(t, files...)
		d.Arm(1)
		d.SyncDir()
		o := New(conf, d)
		for range 2 {
			if up, err := o.Step(); up || err != api.ErrDiskDown {
				t.Errorf("P18.3: while it is down: %v, error %d", up, err)
			}
		}
		d.Fall(0, nil)
		if up, err := o.Step(); up || err != api.ErrDiskDown {
			t.Errorf("P18.2: it has ended: %v, error %d", up, err)
		}
	}
}

// TestRefusedReading: what stage 1 refuses, the first one that applies.
func TestRefusedReading(t *testing.T) {
	const file1 = 1_000_000_000_000 - 1<<32 + 1
	const root1 = 1<<56 - 1<<40 + 1
	current := file("current", manifest.Current("m-000000000002"))
	odd := whole(api.Roots{})
	odd.Pointers = make([]string, 4)
	twice := api.Placed{Table: api.Table{Number: 5, Least: "a", Greatest: "a"}}
	far := api.Placed{Level: 2, Table: api.Table{Number: file1, Least: "a", Greatest: "a"}}
	for _, row := range []struct {
		what  string
		files []api.File
		want  api.Errno
	}{
		{"a log's number", []api.File{file(number12("l", file1), nil)}, api.ErrOpenNumber},
		{"a manifest's number", []api.File{file(number12("m", file1), nil)}, api.ErrOpenNumber},
		{"a table's number", []api.File{file("t-999999999999", nil)}, api.ErrOpenNumber},
		{"a number ahead of current's bytes", []api.File{file("current", nil), file(number12("t", file1), nil)}, api.ErrOpenNumber},
		{"a number ahead of tables", with(rooted(2, whole(api.Roots{}, twice)), file(number12("l", file1), nil)), api.ErrOpenNumber},
		{"current of no bytes", []api.File{file("current", nil)}, api.ErrManifestForm},
		{"current with a byte behind", []api.File{file("current", append(manifest.Current("m-000000000002"), 0)), rooted(2, whole(api.Roots{}))[1]}, api.ErrManifestForm},
		{"current that names a log", []api.File{file("current", manifest.Current("l-000000000002")), file("l-000000000002", nil)}, api.ErrManifestForm},
		{"no manifest", []api.File{current}, api.ErrManifestNone},
		{"another manifest", []api.File{current, rooted(3, whole(api.Roots{}))[1]}, api.ErrManifestNone},
		{"no manifest, and that isn't near the end", []api.File{file("current", manifest.Current("m-999999999999"))}, api.ErrManifestNone},
		{"a manifest of no bytes", []api.File{current, file("m-000000000002", nil)}, api.ErrManifestForm},
		{"a manifest that is torn", []api.File{current, file("m-000000000002", rooted(2, whole(api.Roots{}))[1].Data[1:])}, api.ErrManifestForm},
		{"four pointers", rooted(2, odd), api.ErrVersionLevel},
		{"a table twice", rooted(2, whole(api.Roots{}, twice, twice)), api.ErrVersionTwice},
		{"a table out that isn't there", rooted(2, whole(api.Roots{}), api.Edit{Out: []api.Place{{Number: 3}}, Pointers: make([]string, 3)}), api.ErrVersionNone},
		{"the version ahead of the roots", rooted(2, whole(api.Roots{Log: root1}, twice, twice)), api.ErrVersionTwice},
		{"Log", rooted(2, whole(api.Roots{Log: root1})), api.ErrOpenNumber},
		{"Next", rooted(2, whole(api.Roots{Next: root1})), api.ErrOpenNumber},
		{"Seq", rooted(2, whole(api.Roots{Seq: root1})), api.ErrOpenNumber},
		{"the greatest Seq", rooted(2, whole(api.Roots{Seq: math.MaxUint64})), api.ErrOpenNumber},
		{"a table's number in the version", rooted(2, whole(api.Roots{}, twice, far)), api.ErrOpenNumber},
	} {
		isRefused(t, row.what, row.files, 1, row.want)
	}
}

// TestNearTheEnd: the greatest numbers that aren't refused, and the coming up behind them.
func TestNearTheEnd(t *testing.T) {
	const most = 1_000_000_000_000 - 1<<32
	const root = 1<<56 - 1<<40
	for _, kind := range []string{"l", "m", "t"} {
		d := world(t, file(number12(kind, most), nil))
		isState(t, "a number of kind "+kind, opened(t, conf, d), api.Roots{Log: most + 1, Next: most + 3, Manifest: most + 2})
		o := New(conf, d)
		if n, up, err := run(t, o); n != 1 || up || err != api.ErrOpenNumber {
			t.Errorf("P18.3: behind it: %d steps, %v, error %d", n, up, err)
		}
	}
	f, meta := tableFile(t, conf, most, api.Entry{Key: "a", Seq: 1, Val: "x"})
	files := with(rooted(3, whole(api.Roots{Log: root, Next: root, Seq: root}, api.Placed{Level: 1, Table: meta})), f, logFile(9, group(1, "b1")))
	d := world(t, files...)
	s := isState(t, "roots", opened(t, conf, d), api.Roots{Log: most + 1, Next: most + 3, Seq: root, Manifest: most + 2})
	if got := levelText(t, d, s, 1); got != fmt.Sprint(uint64(most), ": a1=x") {
		t.Errorf("P18.4: %s", got)
	}
	d = world(t, with(rooted(3, whole(api.Roots{})), logFile(4, group(root-1, "a1 b2")))...)
	s = isState(t, "an entry", opened(t, conf, d), api.Roots{Log: 6, Next: 8, Seq: root, Manifest: 7})
	if got := levelText(t, d, s, 0); got != fmt.Sprint("5: a", uint64(root-1), "=1 b", uint64(root), "=2") {
		t.Errorf("P18.7: %s", got)
	}
}

// TestNext: 1 more than the greatest number of its names, whatever the roots say, and at least 1.
func TestNext(t *testing.T) {
	for _, row := range []struct {
		what  string
		files []api.File
		next  uint64
	}{
		{"no file", nil, 1},
		{"number 0", []api.File{file("t-000000000000", nil)}, 1},
		{"only new", []api.File{file("new", []byte("x"))}, 1},
		{"an orphan", []api.File{file(number12("m", 41), nil)}, 42},
		{"the roots' Next isn't looked at", rooted(2, whole(api.Roots{Log: 77, Next: 900})), 3},
		{"nor that it is less", with(rooted(20, whole(api.Roots{Log: 1, Next: 4})), file(number12("t", 30), nil)), 31},
		{"the manifest 0", rooted(0, whole(api.Roots{})), 1},
	} {
		d := world(t, row.files...)
		isState(t, row.what, opened(t, conf, d), api.Roots{Log: row.next, Next: row.next + 2, Manifest: row.next + 1})
		if got, want := listed(d.Files()), fmt.Sprintf("current l-%d m-%d", row.next, row.next+1); got != want {
			t.Errorf("P18.3: %s: %s, want %s", row.what, got, want)
		}
	}
}

// shelf: a directory with tables in three levels, their numbers in another order than they stand.
func shelf(t *testing.T) (files []api.File, in []api.Placed) {
	t.Helper()
	for i, row := range []struct {
		level  int
		number uint64
		key    string
	}{{0, 9, "a"}, {0, 3, "a"}, {1, 8, "b"}, {1, 5, "c"}, {2, 4, "a"}} {
		f, meta := tableFile(t, conf, row.number, api.Entry{Key: row.key, Seq: uint64(20 - i), Val: "x"})
		files, in = append(files, f), append(in, api.Placed{Level: row.level, Table: meta})
	}
	return files, in
}

func TestTables(t *testing.T) {
	tables, in := shelf(t)
	good := with(rooted(12, whole(api.Roots{Log: 13, Next: 13, Seq: 20}, in...)), tables...)
	d := world(t, good...)
	o := New(conf, d)
	if n, up, err := run(t, o); n != 5+5+1 || !up || err != api.OK {
		t.Fatalf("P18.4: %d steps, %v, error %d", n, up, err)
	}
	s := isState(t, "tables", o, api.Roots{Log: 13, Next: 15, Seq: 20, Manifest: 14})
	for level, want := range []string{"9: a20=x | 3: a19=x", "8: b18=x | 5: c17=x", "4: a16=x"} {
		if got := levelText(t, d, s, level); got != want {
			t.Errorf("P18.4: level %d: %s, want %s", level, got, want)
		}
	}
	other, _ := tableFile(t, conf, 1, api.Entry{Key: "z", Seq: 1, Val: "x"})
	// Each of them wrong in each way: the steps ahead of it go well.
	for i, f := range tables {
		at := 2 + i
		turned := slices.Clone(f.Data)
		turned[1] ^= 4
		for _, row := range []struct {
			what string
			data []byte
			want api.Errno
		}{{"no table", []byte("x"), api.ErrTableForm}, {"no byte", nil, api.ErrTableForm}, {"a bit turned", turned, api.ErrTableSum}, {"another table", other.Data, api.ErrOpenTable}} {
			files := slices.Clone(good)
			files[2+i].Data, files[2+i].Sure = row.data, len(row.data)
			isRefused(t, fmt.Sprintf("P18.4: table %d: %s", i, row.what), files, at, row.want)
		}
		isRefused(t, fmt.Sprintf("P18.4: table %d isn't there", i), slices.Delete(slices.Clone(good), 2+i, 3+i), at, api.ErrOpenTable)
		for field, change := range []func(x *api.Table){
			func(x *api.Table) { x.Weight++ }, func(x *api.Table) { x.Bytes-- }, func(x *api.Table) { x.Entries++ },
			func(x *api.Table) { x.Least = string(x.Least[0]-1) + "\x7f" }, func(x *api.Table) { x.Greatest += "\x00" },
		} {
			other := slices.Clone(in)
			change(&other[i].Table)
			files := with(rooted(12, whole(api.Roots{Log: 13, Next: 13, Seq: 20}, other...)), tables...)
			isRefused(t, fmt.Sprintf("P18.4: table %d: field %d", i, field), files, at, api.ErrOpenTable)
		}
	}
	// A table's name with another kind is no file of a table.
	files := slices.Clone(good)
	files[2].Name = number12("l", 9)
	isRefused(t, "P18.4: a file of another kind", files, 2, api.ErrOpenTable)
}

// unsure: files of which nothing is sure.
func unsure(files []api.File) []api.File {
	l := slices.Clone(files)
	for i := range l {
		l[i].Sure = 0
	}
	return l
}

// TestMakingSure: which files, in which order, and the directory behind them.
func TestMakingSure(t *testing.T) {
	tables, in := shelf(t)
	files := with(rooted(12, whole(api.Roots{Log: 6, Next: 13, Seq: 20}, in...)), tables...)
	files = with(files, logFile(5, group(1, "o1")), logFile(7, group(30, "p1")), logFile(6, group(20, "q1")), logFile(11, group(40, "r1")),
		file("new", []byte("n")), file(number12("t", 1), []byte("o")), file(number12("m", 2), []byte("o")), file("else", []byte("e")))
	want := []string{"current", "m-12", "t-9", "t-3", "t-8", "t-5", "t-4", "l-6", "l-7", "l-11"}
	for calls := 0; calls <= len(want)+1; calls++ {
		d := world(t, unsure(files)...)
		d.Create("unsure")
		o := New(conf, d)
		for range 1 + len(tables) {
			if up, err := o.Step(); up || err != api.OK {
				t.Fatalf("P18.4: %v, error %d", up, err)
			}
		}
		d.Fail(calls, 1, 0)
		_, err := o.Step()
		if (err == api.ErrDiskFault) != (calls <= len(want)) {
			t.Errorf("P18.5: call %d of %d fails: error %d", calls, len(want)+1, err)
		}
		for _, f := range d.Files() {
			i := slices.Index(want, short(f.Name))
			if sure := f.Sure == len(f.Data) && len(f.Data) > 0; sure != (i >= 0 && i < calls) {
				t.Errorf("P18.5: %d calls went well: %s: sure %v", calls, f.Name, sure)
			}
		}
		if _, sure := find(d.Image(0, nil), "unsure"); sure != (calls > len(want)) {
			t.Errorf("P18.5: %d calls went well: the directory is sure: %v", calls, sure)
		}
	}
	// Of an empty store nothing but the directory.
	d := world(t, unsure([]api.File{logFile(3, group(1, "a1")), file("new", []byte("n"))})...)
	d.Create("unsure")
	o := New(conf, d)
	o.Step()
	if up, err := o.Step(); up || err != api.OK || len(d.Image(0, nil)) != 3 {
		t.Errorf("P18.5: of an empty store: %v, error %d", up, err)
	}
	for _, f := range d.Files() {
		if f.Sure != 0 {
			t.Errorf("P18.5: of an empty store: %s is sure", f.Name)
		}
	}
}

func TestOrphans(t *testing.T) {
	f, meta := tableFile(t, conf, 6, api.Entry{Key: "a", Seq: 1, Val: "x"})
	files := with(rooted(12, whole(api.Roots{Log: 6, Next: 13, Seq: 20}, api.Placed{Level: 1, Table: meta})), f,
		logFile(6), logFile(7), logFile(5), logFile(0), file("new", nil), file(number12("t", 12), nil), file(number12("t", 5), nil), file(number12("m", 6), nil), file(number12("m", 30), nil))
	d := world(t, files...)
	o := New(conf, d)
	for range 3 {
		o.Step()
	}
	for i, gone := range strings.Fields("l-0 l-5 m-6 m-30 new t-5 t-12") {
		was := strings.Fields(listed(d.Files()))
		if up, err := o.Step(); up || err != api.OK {
			t.Fatalf("P18.6: %v, error %d", up, err)
		}
		want := slices.DeleteFunc(was, func(s string) bool { return s == gone })
		if got := listed(d.Files()); got != strings.Join(want, " ") || len(want) != len(files)-1-i {
			t.Errorf("P18.6: behind %s: %s, want %v", gone, got, want)
		}
	}
	if got := listed(d.Files()); got != "current l-6 l-7 m-12 t-6" {
		t.Errorf("P18.6: wanted ones alone stay: %s", got)
	}
	if _, up, err := run(t, o); !up || err != api.OK || listed(d.Files()) != "current l-31 m-32 t-6" {
		t.Errorf("P18.10: %v, error %d: %s", up, err, listed(d.Files()))
	}
}

// TestLogs: what logs become: the tables of level 0, and the greatest number.
func TestLogs(t *testing.T) {
	torn := func(f api.File) api.File {
		f.Data = append(slices.Clone(f.Data), 7)
		return f
	}
	cut := func(f api.File) api.File {
		f.Data = f.Data[:len(f.Data)-1]
		return f
	}
	broken := []byte{0, 1, 1, 9}
	for _, row := range []struct {
		what string
		logs []api.File
		want string
		seq  uint64
	}{
		{"no log", nil, "", 5},
		{"an empty log", []api.File{logFile(3)}, "", 5},
		{"a record of no batch", []api.File{logFile(3, group(70))}, "", 5},
		{"batches without writes", []api.File{logFile(3, group(70, "", ""))}, "", 5},
		{"batches are numbered on", []api.File{logFile(3, group(10, "a1 b2", "", "a- c3", "d4"), group(20, "e5"))}, "11: a12- b11=2 c13=3 d14=4 e20=5", 20},
		{"the newest of a key", []api.File{logFile(3, group(10, "a1 a2"), group(8, "a0 b0"))}, "11: a11=2 b9=0", 11},
		{"one key and number twice", []api.File{logFile(3, group(10, "a1"), group(10, "a2"))}, "11: a10=1", 10},
		{"numbers below the roots'", []api.File{logFile(3, group(0, "a1"))}, "11: a0=1", 5},
		{"a table a log", []api.File{logFile(9, group(30, "a3")), logFile(4, group(20, "a2 z2")), logFile(3, group(10, "b-"))}, "11: b10- | 12: a20=2 z21=2 | 13: a30=3", 30},
		{"the greatest isn't the last", []api.File{logFile(3, group(90, "a3")), logFile(4, group(20, "a2"))}, "11: a90=3 | 12: a20=2", 90},
		{"empty ones between", []api.File{logFile(3, group(6, "a1")), logFile(4), logFile(5, group(80)), logFile(6, group(7, "a2"))}, "11: a6=1 | 12: a7=2", 7},
		{"bytes behind the last record", []api.File{torn(logFile(3, group(6, "a1"))), logFile(4, group(7, "b1"))}, "11: a6=1", 6},
		{"no whole record", []api.File{cut(logFile(3, group(6, "a1"))), logFile(4, group(7, "b1"))}, "", 5},
		{"a torn second record", []api.File{cut(logFile(3, group(6, "a1"), group(7, "b1"))), logFile(4, group(8, "c1"))}, "11: a6=1", 6},
		{"a torn last log", []api.File{logFile(3, group(6, "a1")), cut(logFile(4, group(7, "b1"), group(8, "c1")))}, "11: a6=1 | 12: b7=1", 7},
		{"a record that is refused", []api.File{logFile(3, group(6, "a1"), broken, group(7, "b1")), logFile(4, group(8, "c1"))}, "11: a6=1", 6},
		{"the last record is refused", []api.File{logFile(3, group(6, "a1"), broken), logFile(4, group(8, "c1"))}, "11: a6=1", 6},
		{"a record of no bytes is refused", []api.File{logFile(3, nil, group(6, "a1")), logFile(4, group(8, "c1"))}, "", 5},
		{"a number past the last record", []api.File{logFile(3, group(6, "a1"), group(1<<56-1, "a1 b1"), group(7, "b1"))}, "11: a6=1", 6},
		{"a number that no entry has", []api.File{logFile(3, group(6, "a1"), group(1<<56-1<<40+1))}, "11: a6=1", 6},
		{"too great ones behind a refused record", []api.File{logFile(3, broken, group(1<<56-1, "a1"))}, "", 5},
		{"too great ones behind a torn log", []api.File{torn(logFile(3)), logFile(4, group(1<<56-1, "a1"))}, "", 5},
		{"logs that aren't wanted", []api.File{logFile(2, group(1<<56-1, "a1")), logFile(1, group(6, "a1"))}, "", 5},
	} {
		files := with(rooted(10, whole(api.Roots{Log: 3, Next: 11, Seq: 5})), row.logs...)
		for i := range files {
			files[i].Sure = len(files[i].Data)
		}
		d := world(t, files...)
		o := opened(t, conf, d)
		s, roots := o.State()
		if got := levelText(t, d, s, 0); got != row.want || roots.Seq != row.seq {
			t.Errorf("P18.7: %s: %s, %d, want %s, %d", row.what, got, roots.Seq, row.want, row.seq)
		}
		tables := len(s.Current().Tables(0))
		if roots.Log != uint64(11+tables) || roots.Manifest != roots.Log+1 || roots.Next != roots.Log+2 || len(d.Files()) != 3+tables {
			t.Errorf("P18.9: %s: %+v, %s", row.what, roots, listed(d.Files()))
		}
	}
}

// TestLogNumber: an entry's number that is too near to its end, wherever it stands.
func TestLogNumber(t *testing.T) {
	const root = 1<<56 - 1<<40
	for _, row := range []struct {
		what  string
		logs  []api.File
		steps int
	}{
		{"the only one", []api.File{logFile(3, group(root+1, "a1"))}, 3},
		{"the second write", []api.File{logFile(3, group(root, "a1 b1"))}, 3},
		{"the second batch", []api.File{logFile(3, group(root, "a1", "", "b-"))}, 3},
		{"the second record", []api.File{logFile(3, group(1, "a1"), group(1<<56-1, "b1"), group(2, "c1"))}, 3},
		{"behind an empty log", []api.File{logFile(3), logFile(4, group(root+1, "a1"))}, 4},
		{"ahead of a torn record", []api.File{file(number12("l", 3), append(records(group(root+1, "a1")), 9))}, 3},
		{"behind a flush", []api.File{logFile(3, group(1, "a1")), logFile(4, group(root+1, "a1"))}, 8},
	} {
		files := with(rooted(2, whole(api.Roots{Log: 3})), row.logs...)
		d := world(t, files...)
		o := New(conf, d)
		if n, up, err := run(t, o); n != row.steps || up || err != api.ErrOpenNumber {
			t.Errorf("P18.7: %s: %d steps, want %d: %v, error %d", row.what, n, row.steps, up, err)
		}
		if _, ok := find(d.Files(), number12("m", 3)); ok || len(d.Files()) != len(files)+row.steps/8 {
			t.Errorf("P18.7: %s: %s", row.what, listed(d.Files()))
		}
	}
}

// stepsText: what each step of an opener did, as it shows in the names and bytes of its disk.
func stepsText(t *testing.T, o *Opener, d *disk.Disk) string {
	t.Helper()
	var l []string
	for {
		before := d.Files()
		up, err := o.Step()
		if err != api.OK {
			t.Fatalf("P18.2: error %d", err)
		}
		if up {
			return strings.Join(append(l, "up"), ", ")
		}
		l = append(l, changed(before, d.Files()))
	}
}

// changed: +name, -name, ~name of files that came, went, or have other bytes.
func changed(before, after []api.File) string {
	var l []string
	for _, f := range after {
		if was, ok := find(before, f.Name); !ok {
			l = append(l, "+"+short(f.Name))
		} else if !slices.Equal(was.Data, f.Data) {
			l = append(l, "~"+short(f.Name))
		}
	}
	for _, f := range before {
		if _, ok := find(after, f.Name); !ok {
			l = append(l, "-"+short(f.Name))
		}
	}
	if len(l) == 0 {
		return "."
	}
	return strings.Join(l, " ")
}

// TestSteps: which step does what, through all stages.
func TestSteps(t *testing.T) {
	f, meta := tableFile(t, conf, 6, api.Entry{Key: "a", Seq: 1, Val: "x"})
	big := log.Put(5, [][]api.Write{{{Key: "b", Val: strings.Repeat("v", 512)}, {Key: "c", Val: strings.Repeat("v", 512)}, {Key: "d", Val: strings.Repeat("v", 512)}}})
	files := with(rooted(12, whole(api.Roots{Log: 6, Next: 13, Seq: 3}, api.Placed{Level: 2, Table: meta})), f,
		logFile(6, group(4, "b1")), logFile(7), logFile(8, big), logFile(5), file("new", []byte("old")))
	d := world(t, files...)
	o := New(conf, d)
	got := stepsText(t, o, d)
	// Reading; the table; making sure; two orphans; log 6: read, filled, made, laid, sealed; log 7; log 8: read, filled twice, made, laid, filled, laid, sealed.
	want := "., ., ., -l-5, -new, " + "., ., +t-13, ~t-13, ., " + "., " + "., ., ., +t-14, ~t-14, ~t-14, ., " + "+l-15, ~current +m-16, -l-6, -l-7, -l-8, -m-12, up"
	if got != want {
		t.Errorf("P18.2: %s\nwant %s", got, want)
	}
	s := isState(t, "all stages", o, api.Roots{Log: 15, Next: 17, Seq: 7, Manifest: 16})
	if text := levelText(t, d, s, 0); !strings.HasPrefix(text, "13: b4=1 | 14: b5=vv") || levelText(t, d, s, 2) != "6: a1=x" {
		t.Errorf("P18.9: %s", text)
	}
}

// TestNewManifest: what lies in the new manifest and in current, all of it sure; the pointers and older tables stay.
func TestNewManifest(t *testing.T) {
	tables, in := shelf(t)
	first := whole(api.Roots{Log: 10, Next: 13, Seq: 20}, in...)
	first.Pointers = []string{"", "b", ""}
	last := api.Edit{Log: 10, Next: 13, Seq: 33, Out: []api.Place{{Level: 1, Number: 8}}, Pointers: []string{"", "c", "\x00"}}
	files := with(rooted(12, first, last), tables...)
	files = with(files, logFile(10, group(50, "a-")), logFile(11, group(60, "y1")))
	d := world(t, files...)
	o := opened(t, conf, d)
	roots := api.Roots{Log: 15, Next: 17, Seq: 60, Manifest: 16}
	s := isState(t, "a new manifest", o, roots)
	for level, want := range []string{"9: a20=x | 3: a19=x | 13: a50- | 14: y60=1", "5: c17=x", "4: a16=x"} {
		if got := levelText(t, d, s, level); got != want {
			t.Errorf("P18.9: level %d: %s, want %s", level, got, want)
		}
	}
	if got := s.Pointers(); !slices.Equal(got, last.Pointers) {
		t.Errorf("P18.9: pointers %q", got)
	}
	b, _ := d.Read(number12("m", 16))
	if !slices.Equal(b, manifest.Bytes(0, manifest.Whole(s, roots))) {
		t.Errorf("P18.9: the manifest's bytes")
	}
	b, _ = d.Read("current")
	if !slices.Equal(b, manifest.Current(number12("m", 16))) {
		t.Errorf("P18.9: current's bytes")
	}
	// All that a store begins with is sure, but that the old files are gone.
	if got := listed(d.Image(0, nil)); got != "current l-10 l-11 l-15 m-12 m-16 t-3 t-4 t-5 t-9 t-13 t-14" {
		t.Errorf("P18.9: sure are %s", got)
	}
	// Table 8 went out by an edit: an orphan, whose going was made sure with the new names.
	if got := listed(d.Files()); got != "current l-15 m-16 t-3 t-4 t-5 t-9 t-13 t-14" {
		t.Errorf("P18.10: %s", got)
	}
	for _, f := range d.Files() {
		if f.Sure != len(f.Data) {
			t.Errorf("P18.9: %s isn't sure", f.Name)
		}
	}
	// Nothing is pinned: what goes out is gone at once.
	gone, err := s.Apply(api.Edit{Out: []api.Place{{Level: 0, Number: 13}}, Pointers: s.Pointers()})
	if err != api.OK || !slices.Equal(gone, []uint64{13}) {
		t.Errorf("P18.12: %v, error %d", gone, err)
	}
}

// TestNewIsThere: a roll deletes `new`, if it is there, whoever laid it there.
func TestNewIsThere(t *testing.T) {
	d := world(t)
	o := New(conf, d)
	for range 3 {
		o.Step()
	}
	d.Create("new")
	d.Append("new", []byte("something"))
	if _, up, err := run(t, o); !up || err != api.OK || listed(d.Files()) != "current l-1 m-2" {
		t.Errorf("P18.9: %v, error %d: %s", up, err, listed(d.Files()))
	}
}

// TestFull: a disk without room ends a coming up; the next one with room finds the same.
func TestFull(t *testing.T) {
	files := with(rooted(2, whole(api.Roots{Log: 3})), logFile(3, group(1, "a1 b2")))
	used := 0
	for _, f := range files {
		used += len(f.Data)
	}
	seen := map[api.Errno]int{}
	for room := used; room < used+400; room++ {
		d, _ := disk.New(room, files)
		_, up, err := run(t, New(conf, d))
		if up != (err == api.OK) || err != api.OK && err != api.ErrDiskFull {
			t.Fatalf("P18.2: with room for %d more: %v, error %d", room-used, up, err)
		}
		seen[err]++
		again := world(t, d.Files()...)
		s, _ := opened(t, conf, again).State()
		if got := meaning(t, again, s); len(got) != 2 || got["a"] != "1" || got["b"] != "2" {
			t.Errorf("P18.13: with room for %d more: %v", room-used, got)
		}
	}
	if seen[api.OK] == 0 || seen[api.ErrDiskFull] == 0 {
		t.Errorf("the cases are too few to tell anything: %v", seen)
	}
}

// TestOpenersApart: two openers over two disks don't touch one another, nor do their sets.
func TestOpenersApart(t *testing.T) {
	files := with(rooted(2, whole(api.Roots{Log: 3})), logFile(3, group(1, "a1 b2")))
	d, other := world(t, files...), world(t, files...)
	o, twin := New(conf, d), New(conf, other)
	for up := false; !up; {
		upNow, err := o.Step()
		twinUp, twinErr := twin.Step()
		if upNow != twinUp || err != api.OK || twinErr != api.OK || !sameDisks(d, other) {
			t.Fatalf("rule 6: %v, error %d, and %v, error %d", upNow, err, twinUp, twinErr)
		}
		up = upNow
	}
	s, _ := o.State()
	same, _ := twin.State()
	s.Apply(api.Edit{Out: []api.Place{{Level: 0, Number: 4}}, Pointers: s.Pointers()})
	if s == same || len(same.Current().Tables(0)) != 1 {
		t.Errorf("rule 6: two openers share a set")
	}
}

// TestWrongConfig: of a configuration that isn't right calls end.
func TestWrongConfig(t *testing.T) {
	tables, in := shelf(t)
	files := with(rooted(12, whole(api.Roots{Log: 10}, in...)), tables...)
	files = with(files, logFile(13, group(50, "a- b1 c2")))
	for _, n := range []int{math.MinInt, -1, 0, 1, 3, 6, math.MaxInt} {
		for _, files := range [][]api.File{nil, files} {
			c := api.Config{Levels: n, MaxChunk: n, FileBytes: n, BlockBytes: n, Restart: n, BloomBits: min(n, 16)}
			run(t, New(c, world(t, files...)))
			c.Levels = 3
			d := world(t, files...)
			s, _ := opened(t, c, d).State()
			if want := min(1, len(files)) * 3; len(s.Current().Tables(0)) != want {
				t.Errorf("all else %d: %d tables, want %d", n, len(s.Current().Tables(0)), want)
			}
		}
	}
}

func TestZeroOpener(t *testing.T) {
	var o Opener
	if s, roots := o.State(); s != nil || roots != (api.Roots{}) {
		t.Errorf("a zero opener: %v", s)
	}
	o.Step()
	o.Step()
}
