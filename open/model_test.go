package open

import (
	"fmt"
	"math/rand"
	"regexp"
	"slices"
	"strings"
	"testing"

	"scree/api"
	"scree/disk"
	"scree/ikey"
	"scree/job"
	"scree/log"
	"scree/manifest"
	"scree/mem"
	"scree/table"
	"scree/version"
)

// call: a call of the disk that changes something.
type call func(d *disk.Disk) api.Errno

// modelStep: the calls of a step, and the refusal that it ends with.
type modelStep struct {
	calls  []call
	refuse api.Errno
}

// model: all that a coming up over some files will do, if nothing goes wrong.
type model struct {
	t       testing.TB
	c       api.Config
	files   []api.File
	steps   []modelStep
	set     *version.Set
	roots   api.Roots
	logs    []string
	refused bool
	heavy   int // the greatest weight of a wanted log's entries, those that aren't read, too
}

var storeName = regexp.MustCompile(`^(current|new|[lmt]-[0-9]{12})$`)

func create(name string) call { return func(d *disk.Disk) api.Errno { return d.Create(name) } }
func appendTo(name string, b []byte) call {
	return func(d *disk.Disk) api.Errno { return d.Append(name, b) }
}
func syncFile(name string) call { return func(d *disk.Disk) api.Errno { return d.Sync(name) } }
func remove(name string) call   { return func(d *disk.Disk) api.Errno { return d.Delete(name) } }
func rename(from, to string) call {
	return func(d *disk.Disk) api.Errno { return d.Rename(from, to) }
}
func syncDir(d *disk.Disk) api.Errno { return d.SyncDir() }

func (m *model) does(calls ...call) { m.steps = append(m.steps, modelStep{calls: calls}) }

// refuses puts down a step that is refused: nothing comes behind it.
func (m *model) refuses(err api.Errno) {
	m.steps = append(m.steps, modelStep{refuse: err})
	m.refused = true
}

func (m *model) data(name string) ([]byte, bool) {
	f, ok := find(m.files, name)
	return f.Data, ok
}

// newModel tells what a coming up over these files will do.
func newModel(t testing.TB, c api.Config, files []api.File) *model {
	m := &model{t: t, c: c, files: files}
	var names []string
	next := uint64(1)
	tooGreat := false
	for _, f := range files {
		if !storeName.MatchString(f.Name) {
			continue
		}
		names = append(names, f.Name)
		if f.Name[1] != '-' {
			continue
		}
		var n uint64
		fmt.Sscanf(strings.TrimLeft(f.Name[2:13], "0")+f.Name[13:], "%d", &n)
		next = max(next, n+1)
		tooGreat = tooGreat || n > 1_000_000_000_000-1<<32
	}
	if tooGreat {
		m.refuses(api.ErrOpenNumber)
		return m
	}
	old := m.readCurrent()
	if m.refused {
		return m
	}
	m.does() // the reading
	m.roots.Next = next
	wanted := m.checkTables(old)
	if m.refused {
		return m
	}
	for _, name := range names {
		if old != "" && name[:2] == "l-" && name >= fmt.Sprintf("l-%012d", m.roots.Log) && m.roots.Log < 1_000_000_000_000 {
			m.logs = append(m.logs, name)
			wanted = append(wanted, name)
		}
	}
	var sure []call
	for _, name := range wanted {
		sure = append(sure, syncFile(name))
	}
	m.does(append(sure, syncDir)...)
	for _, name := range names {
		if !slices.Contains(wanted, name) {
			m.does(remove(name))
		}
	}
	m.finish(old, m.readAll())
	return m
}

// readCurrent is what stage 1 does behind the names.
func (m *model) readCurrent() string {
	m.set = version.New(m.c.Levels)
	b, ok := m.data("current")
	if !ok {
		return ""
	}
	old, err := manifest.Points(b)
	if err != api.OK {
		m.refuses(err)
		return ""
	}
	b, ok = m.data(old)
	if !ok {
		m.refuses(api.ErrManifestNone)
		return ""
	}
	if m.set, m.roots, err = manifest.Read(b, m.c.Levels); err != api.OK {
		m.refuses(err)
		return ""
	}
	far := m.roots.Log > 1<<56-1<<40 || m.roots.Next > 1<<56-1<<40 || m.roots.Seq > 1<<56-1<<40
	for level := range 5 {
		for _, x := range m.set.Current().Tables(level) {
			far = far || x.Number > 1_000_000_000_000-1<<32
		}
	}
	if far {
		m.refuses(api.ErrOpenNumber)
	}
	return old
}

// checkTables is stage 2; it tells what is wanted so far.
func (m *model) checkTables(old string) []string {
	if old == "" {
		return nil
	}
	wanted := []string{"current", old}
	for level := range 5 {
		for _, x := range m.set.Current().Tables(level) {
			name := number12("t", x.Number)
			b, ok := m.data(name)
			if !ok {
				m.refuses(api.ErrOpenTable)
				return nil
			}
			k, err := table.Open(b)
			if err != api.OK {
				m.refuses(err)
				return nil
			}
			meta := k.Meta()
			meta.Number = x.Number
			if meta != x {
				m.refuses(api.ErrOpenTable)
				return nil
			}
			m.does()
			wanted = append(wanted, name)
		}
	}
	return wanted
}

// logEntries: the entries of a log, of those of one key and number the first, and whether all of it is right.
func logEntries(b []byte) ([]api.Entry, bool) {
	recs, taken, _ := log.Read(b)
	right := taken == len(b)
	var l []api.Entry
	for _, rec := range recs {
		first, batches, err := log.Get(rec)
		if err != api.OK {
			return l, false
		}
		for _, e := range ikey.Entries(first, slices.Concat(batches...)) {
			if !slices.ContainsFunc(l, func(x api.Entry) bool { return x.Key == e.Key && x.Seq == e.Seq }) {
				l = append(l, e)
			}
		}
	}
	return l, right
}

// readAll is stage 5; it tells the tables that the logs become.
func (m *model) readAll() []api.Placed {
	for _, name := range m.logs {
		b, _ := m.data(name)
		l, _ := logEntries(b)
		weight := 0
		for _, e := range l {
			weight += ikey.Weight(e)
		}
		m.heavy = max(m.heavy, weight)
	}
	var in []api.Placed
	for _, name := range m.logs {
		b, _ := m.data(name)
		l, right := logEntries(b)
		t := mem.New([]byte{200, 3, 77})
		for _, e := range l {
			if e.Seq > 1<<56-1<<40 {
				m.refuses(api.ErrOpenNumber)
				return nil
			}
			t.Add(e.Seq, []api.Write{{Key: e.Key, Del: e.Del, Val: e.Val}})
			m.roots.Seq = max(m.roots.Seq, e.Seq)
		}
		m.does()
		in = append(in, m.flush(t)...)
		if !right {
			break
		}
	}
	return in
}

// flush puts down the steps of a flush, as they are on a disk of its own.
func (m *model) flush(t *mem.Table) []api.Placed {
	aside, _ := disk.New(0, nil)
	j := job.Flush(m.c, aside, t)
	name := number12("t", m.roots.Next)
	number := m.roots.Next
	for laid := 0; j.Next() != job.Done; {
		next, size := j.Next(), j.Size()
		if err := j.Step(number); err != api.OK {
			m.t.Fatalf("a flush aside: error %d", err)
		}
		switch next {
		case job.Make:
			m.roots.Next++
			m.does(create(name))
		case job.Write:
			b, _ := aside.Read(name)
			m.does(appendTo(name, b[laid:laid+size]))
			laid += size
		case job.Seal:
			m.does(syncFile(name), syncDir)
		default:
			m.does()
		}
	}
	return j.Out()
}

// finish is stages 6 to 8.
func (m *model) finish(old string, in []api.Placed) {
	if m.refused {
		return
	}
	m.roots.Log = m.roots.Next
	m.does(create(number12("l", m.roots.Log)), syncDir)
	m.roots.Manifest = m.roots.Log + 1
	m.roots.Next = m.roots.Log + 2
	if _, err := m.set.Apply(api.Edit{In: in, Pointers: m.set.Pointers()}); err != api.OK {
		m.t.Fatalf("the tables of logs can't come in: error %d", err)
	}
	name := number12("m", m.roots.Manifest)
	m.does(create(name), appendTo(name, manifest.Bytes(0, manifest.Whole(m.set, m.roots))), syncFile(name), syncDir,
		create("new"), appendTo("new", manifest.Current(name)), syncFile("new"), rename("new", "current"), syncDir)
	for _, name := range m.logs {
		m.does(remove(name))
	}
	if old != "" {
		m.does(remove(old))
	}
}

// costs: the calls of all steps, each by what it costs an armed disk, as they go on a disk of these files.
func (m *model) costs(d *disk.Disk) []int {
	var l []int
	for _, s := range m.steps {
		for _, do := range s.calls {
			before := sizeOf(d)
			do(d)
			l = append(l, 1+max(0, sizeOf(d)-before))
		}
	}
	return l
}

func sizeOf(d *disk.Disk) int {
	sum := 0
	for _, f := range d.Files() {
		sum += len(f.Data)
	}
	return sum
}

// together steps an opener, and does what the model tells on a disk that is as its own, and holds both against each other at every step. The answer: how it ended.
func together(t *testing.T, c api.Config, m *model, d, other *disk.Disk) string {
	t.Helper()
	o := New(c, d)
	for i, s := range m.steps {
		want := s.refuse
		for _, do := range s.calls {
			if want = do(other); want != api.OK {
				break
			}
		}
		up, err := o.Step()
		if up || err != want {
			t.Fatalf("P18.2: step %d of %d: %v, error %d, want %d\n%s", i, len(m.steps), up, err, want, listed(m.files))
		}
		// All falls at every step would tell little more, and take long.
		if !sameFiles(d, other) || !sameFall(d, other, i%5) || want != api.OK && !sameDisks(d, other) {
			t.Fatalf("P18.2: step %d of %d: the disks differ: %s, want %s", i, len(m.steps), listed(d.Files()), listed(other.Files()))
		}
		if s, roots := o.State(); s != nil || roots != (api.Roots{}) {
			t.Fatalf("P18.12: step %d of %d: a state: %+v", i, len(m.steps), roots)
		}
		if want != api.OK {
			staysEnded(t, o, d, other, want)
			return fmt.Sprint("error ", int(want))
		}
	}
	for range 2 {
		if up, err := o.Step(); !up || err != api.OK {
			t.Fatalf("P18.11: behind %d steps: %v, error %d", len(m.steps), up, err)
		}
		s, roots := o.State()
		if roots != m.roots || !slices.Equal(s.Pointers(), m.set.Pointers()) || !sameVersion(s.Current(), m.set.Current()) {
			t.Fatalf("P18.12: %+v, want %+v", roots, m.roots)
		}
	}
	if !sameDisks(d, other) {
		t.Fatalf("P18.11: the disks differ behind the end")
	}
	return "up"
}

func sameVersion(a, b *version.Version) bool {
	if a.Levels() != b.Levels() {
		return false
	}
	for level := range a.Levels() {
		if !slices.Equal(a.Tables(level), b.Tables(level)) {
			return false
		}
	}
	return true
}

// staysEnded holds an opener that has ended with an error to answer it again, whatever has become of the disk, and to do nothing.
func staysEnded(t *testing.T, o *Opener, d, other *disk.Disk, want api.Errno) {
	t.Helper()
	for range 2 {
		if up, err := o.Step(); up || err != want {
			t.Fatalf("P18.2: it has ended: %v, error %d, want %d", up, err, want)
		}
		if !sameFiles(d, other) || !sameFall(d, other, 0) {
			t.Fatalf("P18.2: it has ended: the disks differ")
		}
		d.Fall(3, []int{4})
		other.Fall(3, []int{4})
	}
	if s, roots := o.State(); s != nil || roots != (api.Roots{}) {
		t.Fatalf("P18.12: it has ended: a state: %+v", roots)
	}
}

// TestAgainstModel: all that an opener answers, and all that it does to a disk, step by step, over many directories, right ones and wrong ones.
func TestAgainstModel(t *testing.T) {
	r := rand.New(rand.NewSource(18))
	seen := map[string]int{}
	for range 3000 {
		c := anyConfig(r)
		files := anyFiles(t, r, c)
		d, other := world(t, files...), world(t, files...)
		m := newModel(t, c, d.Files())
		seen[together(t, c, m, d, other)]++
		seen[fmt.Sprint("logs ", min(2, len(m.logs)))]++
	}
	enough(t, seen, "up", "logs 0", "logs 1", "logs 2", "error 102", "error 103", "error 130", "error 131", "error 133", "error 140", "error 141", "error 180", "error 181")
}

// TestEachCall: whichever call of the disk fails, or finds the machine falling: the opener has ended there, and nothing more is called.
func TestEachCall(t *testing.T) {
	r := rand.New(rand.NewSource(182))
	seen := map[string]int{}
	for range 100 {
		c := anyConfig(r)
		files := anyFiles(t, r, c)
		m := newModel(t, c, world(t, files...).Files())
		tried := func(rig func(d *disk.Disk)) {
			d, other := world(t, files...), world(t, files...)
			rig(d)
			rig(other)
			seen[together(t, c, newModel(t, c, d.Files()), d, other)]++
		}
		units := 0
		for i, cost := range m.costs(world(t, files...)) {
			// Of long ones some of the later calls tell enough.
			if i < 15 || r.Intn(3) == 0 {
				for _, at := range []int{cost, 1 + r.Intn(cost)} {
					tried(func(d *disk.Disk) { d.Arm(units + at) })
				}
				part, calls := r.Intn(cost+2), 1+r.Intn(3)
				tried(func(d *disk.Disk) { d.Fail(i, calls, part) })
			}
			units += cost
		}
	}
	enough(t, seen, "error 30", "error 31")
}
