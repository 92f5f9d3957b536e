package store

import (
	"fmt"
	"maps"
	"slices"
	"strings"

	"scree/api"
	"scree/disk"
	"scree/ikey"
	"scree/job"
	"scree/log"
	"scree/manifest"
	"scree/mem"
	"scree/open"
	"scree/pick"
	"scree/table"
	"scree/version"
)

// model: a store, written down row by row as the document's table has it, over plain lists: what a machine does is found out anew at each step, nothing is remembered that can be reckoned, and entries are looked for from the beginning of every list.
type model struct {
	c     api.Config
	d     *disk.Disk
	clock int
	modelLife
}

type modelLife struct {
	opener       *open.Opener
	up, readOnly bool
	seq, counter uint64
	mems         []*modelMem // the oldest first, the active one last
	levels       *modelVersion
	pointers     []string
	roots        api.Roots
	tables       map[uint64][]api.Entry // a table's entries, as they were read
	ops          map[int]*modelOp
	line, queue  []int
	led          *modelGroup
	held         []*modelView // one a read or snapshot
	snaps        map[int]*modelView
	made         int // snapshots
	tasks        map[int]*modelTask
	tokens, slow int
	tokenLine    []int
}

type modelMem struct {
	log     uint64
	entries []api.Entry
}

type modelVersion struct{ levels [][]api.Table }

type modelView struct {
	number uint64
	mems   []*modelMem // the newest first
	tables *modelVersion
}

type modelOp struct {
	api.Op
	settled bool
	err     api.Errno
	view    *modelView
	asked   int // tables of a Get
	pairs   []api.Pair
	past    string // the last key of a Scan
}

type modelGroup struct {
	members          []int
	appended, synced bool
	inserted         int
}

type modelTask struct {
	mem  *modelMem
	pick api.Job
	job  *job.Job
}

func newModel(c api.Config, room int, files []api.File) *model {
	d, _ := disk.New(room, files)
	return &model{c: c, d: d}
}

func (o *modelOp) isSync() bool { return o.Kind == api.OpSync || len(o.Writes) == 0 }

func (o *modelOp) weight() int {
	if o.isSync() {
		return 0
	}
	return ikey.BatchWeight(o.Writes)
}

func (m *modelMem) weight() int {
	sum := 0
	for _, e := range m.entries {
		sum += ikey.Weight(e)
	}
	return sum
}

// newest tells the newest entry of a key at or below a number.
func (m *modelMem) newest(key string, at uint64) (api.Entry, bool) {
	var best api.Entry
	for _, e := range m.entries {
		if e.Key == key && e.Seq <= at && e.Seq > best.Seq {
			best = e
		}
	}
	return best, best.Seq > 0
}

func (v *modelVersion) numbers() []uint64 {
	var l []uint64
	for _, t := range slices.Concat(v.levels...) {
		l = append(l, t.Number)
	}
	return l
}

func (m *model) active() *modelMem   { return m.mems[len(m.mems)-1] }
func (m *model) frozen() []*modelMem { return m.mems[:len(m.mems)-1] }

func (m *model) weightOf(level int) int {
	sum := 0
	for _, t := range m.levels.levels[level] {
		sum += t.Weight
	}
	return sum
}

func (m *model) load() int {
	sum := 0
	for _, t := range m.mems {
		sum += t.weight()
	}
	for level := range m.c.Levels - 1 {
		sum += m.weightOf(level)
	}
	return sum
}

func (m *model) debt() int {
	limits, limit := 0, m.c.Base
	for range m.c.Levels - 2 {
		limits += limit
		limit *= m.c.Mult
	}
	return max(0, m.load()-limits)
}

func (m *model) pending() int {
	sum := 0
	for _, k := range m.queue {
		sum += m.ops[k].weight()
	}
	return sum
}

func (m *model) size(name string) int {
	b, _ := m.d.Read(name)
	return len(b)
}

func (m *model) file(kind string) string {
	name := fmt.Sprintf("%s-%012d", kind, m.counter)
	m.counter++
	return name
}

func nameOf(kind string, number uint64) string { return fmt.Sprintf("%s-%012d", kind, number) }

func (m *model) submit(k int, op api.Op) api.Reply {
	refuse := func(err api.Errno) api.Reply { return api.Reply{Did: api.DidRefused, Err: err} }
	out := func(n int) bool { return m.snaps[n] != nil }
	switch {
	case !m.up:
		return refuse(api.ErrDown)
	case k < 0 || k >= m.c.Clients:
		return refuse(api.ErrClient)
	case m.ops[k] != nil:
		return api.Reply{}
	case op.Kind < 1 || op.Kind > 6:
		return refuse(api.ErrOp)
	case op.Kind == api.OpWrite && ikey.CheckBatch(op.Writes) != api.OK:
		return refuse(ikey.CheckBatch(op.Writes))
	case op.Kind == api.OpGet && ikey.Check(op.Key) != api.OK:
		return refuse(ikey.Check(op.Key))
	case op.Kind == api.OpScan && (len(op.Key) > 64 || len(op.To) > 64):
		return refuse(api.ErrKeyLong)
	case op.Kind == api.OpScan && (op.N < 1 || op.N > m.c.ScanLimit):
		return refuse(api.ErrPairs)
	case (op.Kind == api.OpGet || op.Kind == api.OpScan) && op.Snap != 0 && !out(op.Snap):
		return refuse(api.ErrSnap)
	case op.Kind == api.OpRelease && !out(op.Snap):
		return refuse(api.ErrSnap)
	case op.Kind == api.OpWrite && len(op.Writes) == 0 && !op.Sync:
		return api.Reply{Did: api.DidDone}
	}
	if op.Kind == api.OpSync {
		op.Writes, op.Sync = nil, true
	}
	m.ops[k] = &modelOp{Op: op}
	if op.Kind == api.OpWrite || op.Kind == api.OpSync {
		m.line = append(m.line, k)
	}
	return api.Reply{Did: api.DidTake}
}

func (m *model) step(x api.Step) api.Reply {
	switch x.Kind {
	case api.StepSubmit:
		return m.submit(x.A, x.Op)
	case api.StepMachine:
		return m.do(x.A)
	case api.StepTick:
		m.clock++
		m.tokens = min(m.c.Burst, m.tokens+m.c.Rate)
		m.slow = min(m.c.SlowBurst, m.slow+m.c.SlowRate)
		return api.Reply{Did: api.DidTick}
	case api.StepFall:
		m.d.Fall(x.A, x.Keep)
		m.modelLife = modelLife{}
		return api.Reply{Did: api.DidFall}
	case api.StepArm:
		m.d.Arm(x.A)
		return api.Reply{Did: api.DidRig}
	case api.StepFail:
		m.d.Fail(x.A, x.B, x.C)
		return api.Reply{Did: api.DidRig}
	}
	return api.Reply{}
}

func (m *model) do(k int) api.Reply {
	flusher, compactor := m.c.Clients, m.c.Clients+m.c.Flushers
	opener := compactor + m.c.Compactors
	switch {
	case k < 0 || k > opener:
		return api.Reply{}
	case m.d.Down():
		return api.Reply{Did: api.DidIdle}
	case !m.up && k == opener:
		return m.open()
	case !m.up || k == opener:
		return api.Reply{Did: api.DidIdle}
	case k < flusher:
		return m.client(k)
	case k < compactor:
		return m.flusher(k)
	}
	return m.compactor(k)
}

func (m *model) open() api.Reply {
	if m.opener == nil {
		m.opener = open.New(m.c, m.d)
	}
	up, err := m.opener.Step()
	if err != api.OK {
		m.modelLife = modelLife{}
		if err == api.ErrDiskDown {
			return api.Reply{Did: api.DidFall, Err: err}
		}
		return api.Reply{Did: api.DidRefused, Err: err}
	}
	if !up {
		return api.Reply{Did: api.DidOpen}
	}
	set, roots := m.opener.State()
	m.modelLife = modelLife{up: true, seq: roots.Seq, counter: roots.Next, roots: roots, pointers: set.Pointers(), levels: &modelVersion{},
		mems: []*modelMem{{log: roots.Log}}, tables: map[uint64][]api.Entry{}, ops: map[int]*modelOp{}, snaps: map[int]*modelView{}, tasks: map[int]*modelTask{},
		tokens: m.c.Burst, slow: m.c.SlowBurst}
	for level := range m.c.Levels {
		m.levels.levels = append(m.levels.levels, set.Current().Tables(level))
	}
	return api.Reply{Did: api.DidUp}
}

// calls does calls of the disk up to the first error, which it answers for.
func (m *model) calls(l ...func() api.Errno) (api.Reply, bool) {
	for _, call := range l {
		switch err := call(); err {
		case api.OK:
		case api.ErrDiskDown:
			m.modelLife = modelLife{}
			return api.Reply{Did: api.DidFall, Err: err}, false
		default:
			m.readOnly = true
			m.tasks = map[int]*modelTask{}
			m.tokenLine = nil
			return api.Reply{Did: api.DidReadOnly, Err: err}, false
		}
	}
	return api.Reply{}, true
}

func (m *model) create(name string) func() api.Errno {
	return func() api.Errno { return m.d.Create(name) }
}

func (m *model) lay(name string, b []byte) func() api.Errno {
	return func() api.Errno { return m.d.Append(name, b) }
}

func (m *model) sync(name string) func() api.Errno {
	return func() api.Errno { return m.d.Sync(name) }
}

func (m *model) remove(name string) func() api.Errno {
	return func() api.Errno { return m.d.Delete(name) }
}

func (m *model) client(k int) api.Reply {
	o := m.ops[k]
	switch {
	case o == nil:
		return api.Reply{Did: api.DidIdle}
	case o.settled:
		return m.end(k, api.Reply{Err: o.err})
	case o.Kind == api.OpGet:
		return m.get(k, o)
	case o.Kind == api.OpScan:
		return m.scan(k, o)
	case o.Kind == api.OpSnap:
		if len(m.snaps) == m.c.Snapshots {
			return m.end(k, api.Reply{Err: api.ErrSnaps})
		}
		m.made++
		m.snaps[m.made] = m.look()
		return m.end(k, api.Reply{Snap: m.made})
	case o.Kind == api.OpRelease:
		v := m.snaps[o.Snap]
		if v == nil {
			return m.end(k, api.Reply{Err: api.ErrSnap})
		}
		delete(m.snaps, o.Snap)
		r := m.end(k, api.Reply{})
		m.unpin(v)
		return r
	case m.led != nil && m.led.members[0] == k:
		return m.leader(k)
	case m.readOnly && !(m.led != nil && m.led.appended && slices.Contains(m.led.members, k)):
		m.line, m.queue = without(m.line, k), without(m.queue, k)
		if m.led != nil {
			m.led.members = without(m.led.members, k)
		}
		return m.end(k, api.Reply{Err: api.ErrReadOnly})
	case slices.Contains(m.line, k):
		return m.admission(k, o)
	case m.led != nil || m.queue[0] != k:
		return api.Reply{Did: api.DidWait, Why: api.WaitLead}
	}
	most := max(m.c.MaxGroup, o.weight())
	m.led = &modelGroup{}
	for _, who := range m.queue {
		most -= m.ops[who].weight()
		if most < 0 {
			break
		}
		m.led.members = append(m.led.members, who)
	}
	return api.Reply{Did: api.DidLead}
}

func without(l []int, k int) []int {
	return slices.DeleteFunc(slices.Clone(l), func(x int) bool { return x == k })
}

func (m *model) end(k int, r api.Reply) api.Reply {
	delete(m.ops, k)
	r.Did = api.DidDone
	return r
}

func (m *model) admission(k int, o *modelOp) api.Reply {
	wait := func(why int) api.Reply { return api.Reply{Did: api.DidWait, Why: why} }
	if m.line[0] != k {
		return wait(api.WaitTurn)
	}
	if !o.isSync() {
		zero, cost := len(m.levels.levels[0]), min(o.weight(), m.c.SlowBurst)
		if m.pending()+o.weight() > m.c.MaxDebt {
			return wait(api.WaitPending)
		}
		if m.debt() >= m.c.DebtStop {
			return wait(api.WaitDebt)
		}
		if zero >= m.c.L0Stop {
			return wait(api.WaitStop)
		}
		if zero >= m.c.L0Slow {
			if m.slow < cost {
				return wait(api.WaitSlow)
			}
			m.slow -= cost
		}
	}
	m.line = without(m.line, k)
	m.queue = append(m.queue, k)
	return api.Reply{Did: api.DidAdmit}
}

func (m *model) settle(err api.Errno) {
	for _, k := range m.led.members {
		m.ops[k].settled, m.ops[k].err = true, err
		m.queue = without(m.queue, k)
	}
	m.led = nil
}

// fault answers for a leader's call that failed.
func (m *model) fault(r api.Reply) api.Reply {
	if r.Did == api.DidReadOnly {
		m.settle(api.ErrWrite)
	}
	return r
}

func (m *model) leader(k int) api.Reply {
	g := m.led
	var batches [][]api.Write
	sync := false
	for _, who := range g.members {
		o := m.ops[who]
		if !o.isSync() {
			batches = append(batches, o.Writes)
		}
		sync = sync || o.Sync
	}
	first := m.seq + 1
	file := nameOf("l", m.active().log)
	switch {
	case m.readOnly && (!g.appended || sync && !g.synced):
		m.settle(api.ErrReadOnly)
		return m.end(k, api.Reply{Err: api.ErrReadOnly})
	case len(batches) > 0 && !g.appended && m.active().weight() >= m.c.MemBytes:
		if len(m.frozen()) == m.c.MaxImm {
			return api.Reply{Did: api.DidWait, Why: api.WaitRoom}
		}
		number := m.counter
		if r, ok := m.calls(m.sync(file), m.create(m.file("l")), m.d.SyncDir); !ok {
			return m.fault(r)
		}
		m.mems = append(m.mems, &modelMem{log: number})
		return api.Reply{Did: api.DidSwitch}
	case len(batches) > 0 && !g.appended:
		if r, ok := m.calls(m.lay(file, log.Append(m.size(file), log.Put(first, batches)))); !ok {
			return m.fault(r)
		}
		g.appended = true
		return api.Reply{Did: api.DidAppend}
	case sync && !g.synced:
		if r, ok := m.calls(m.sync(file)); !ok {
			return m.fault(r)
		}
		g.synced = true
		return api.Reply{Did: api.DidSync}
	case g.inserted < len(batches):
		for _, l := range batches[:g.inserted] {
			first += uint64(len(l))
		}
		m.active().entries = append(m.active().entries, ikey.Entries(first, batches[g.inserted])...)
		g.inserted++
		return api.Reply{Did: api.DidInsert}
	}
	for _, l := range batches {
		m.seq += uint64(len(l))
	}
	m.settle(api.OK)
	return api.Reply{Did: api.DidPublish}
}

// look notes what is read now.
func (m *model) look() *modelView {
	v := &modelView{number: m.seq, mems: slices.Clone(m.mems), tables: m.levels}
	slices.Reverse(v.mems)
	m.held = append(m.held, v)
	return v
}

// pin notes what an operation reads: what is now, or what its snapshot has.
func (m *model) pin(o *modelOp) bool {
	if o.Snap == 0 {
		o.view = m.look()
		return true
	}
	v := m.snaps[o.Snap]
	if v == nil {
		return false
	}
	again := *v
	o.view = &again
	m.held = append(m.held, o.view)
	return true
}

func (m *model) unpin(v *modelView) {
	m.held = slices.DeleteFunc(m.held, func(x *modelView) bool { return x == v })
	m.calls(m.deletes(v.tables)...)
}

// deletes tells the calls that delete the tables of a version that no version has any more.
func (m *model) deletes(v *modelVersion) []func() api.Errno {
	numbers := v.numbers()
	slices.Sort(numbers)
	var l []func() api.Errno
	for _, n := range numbers {
		wanted := slices.Contains(m.levels.numbers(), n)
		for _, h := range m.held {
			wanted = wanted || slices.Contains(h.tables.numbers(), n)
		}
		if !wanted {
			l = append(l, m.remove(nameOf("t", n)))
		}
	}
	return l
}

func (m *model) entries(number uint64) []api.Entry {
	if m.tables[number] == nil {
		b, _ := m.d.Read(nameOf("t", number))
		t, _ := table.Open(b)
		m.tables[number] = slices.Collect(t.From(""))
	}
	return m.tables[number]
}

func (m *model) finish(k int, v *modelView, r api.Reply) api.Reply {
	r = m.end(k, r)
	m.unpin(v)
	return r
}

func (m *model) get(k int, o *modelOp) api.Reply {
	found := func(e api.Entry) api.Reply {
		return m.finish(k, o.view, api.Reply{Found: !e.Del, Val: e.Val})
	}
	if o.view == nil {
		if !m.pin(o) {
			return m.end(k, api.Reply{Err: api.ErrSnap})
		}
		for _, t := range o.view.mems {
			if e, ok := t.newest(o.Key, o.view.number); ok {
				return found(e)
			}
		}
		return api.Reply{Did: api.DidPin}
	}
	var may []uint64
	for level, l := range o.view.tables.levels {
		var of []uint64
		for _, t := range l {
			if t.Least <= o.Key && o.Key <= t.Greatest {
				of = append(of, t.Number)
			}
		}
		if level == 0 {
			slices.Reverse(of)
		}
		may = append(may, of...)
	}
	for ; o.asked < len(may); o.asked++ {
		for _, e := range m.entries(may[o.asked]) {
			if e.Key == o.Key {
				return found(e)
			}
		}
		if o.asked+1 < len(may) {
			o.asked++
			return api.Reply{Did: api.DidLook}
		}
	}
	return m.finish(k, o.view, api.Reply{})
}

func (m *model) scan(k int, o *modelOp) api.Reply {
	if o.view == nil {
		if !m.pin(o) {
			return m.end(k, api.Reply{Err: api.ErrSnap})
		}
		return api.Reply{Did: api.DidPin}
	}
	all := map[string][]api.Entry{}
	for _, t := range o.view.mems {
		keys := map[string]int{}
		for _, e := range t.entries {
			keys[e.Key] = 1
		}
		for key := range keys {
			if e, ok := t.newest(key, o.view.number); ok {
				all[key] = append(all[key], e)
			}
		}
	}
	for level, l := range o.view.tables.levels {
		l = slices.Clone(l)
		if level == 0 {
			slices.Reverse(l)
		}
		for _, t := range l {
			for _, e := range m.entries(t.Number) {
				all[e.Key] = append(all[e.Key], e)
			}
		}
	}
	maps.DeleteFunc(all, func(key string, _ []api.Entry) bool {
		return key < o.Key || o.To != "" && key >= o.To || o.past != "" && key <= o.past
	})
	keys := slices.Sorted(maps.Keys(all))
	taken := 0
	for i, key := range keys {
		best := all[key][0]
		for _, e := range all[key] {
			taken += ikey.Weight(e)
			if e.Seq > best.Seq {
				best = e
			}
		}
		if !best.Del {
			o.pairs = append(o.pairs, api.Pair{Key: key, Val: best.Val})
		}
		o.past = key
		if len(o.pairs) == o.N || i+1 == len(keys) {
			break
		}
		if taken >= m.c.MaxChunk {
			return api.Reply{Did: api.DidLook}
		}
	}
	return m.finish(k, o.view, api.Reply{Pairs: o.pairs})
}

// work does a step of a job, which isn't done.
func (m *model) work(k int, t *modelTask) api.Reply {
	dids := map[int]int{job.Make: api.DidMake, job.Fill: api.DidFill, job.Write: api.DidWrite, job.Seal: api.DidSeal}
	r := api.Reply{Did: dids[t.job.Next()], Wrote: t.job.Size()}
	paced := r.Did == api.DidWrite && t.mem == nil
	if paced && (m.tokens <= 0 || len(m.tokenLine) > 0 && m.tokenLine[0] != k) {
		if !slices.Contains(m.tokenLine, k) {
			m.tokenLine = append(m.tokenLine, k)
		}
		return api.Reply{Did: api.DidWait, Why: api.WaitTokens}
	}
	number := m.counter
	if r.Did == api.DidMake {
		m.counter++
	}
	if r, ok := m.calls(func() api.Errno { return t.job.Step(number) }); !ok {
		return r
	}
	if paced {
		m.tokens -= r.Wrote
		m.tokenLine = without(m.tokenLine, k)
	}
	return r
}

func (m *model) flusher(k int) api.Reply {
	t := m.tasks[k]
	switch {
	case m.readOnly:
		return api.Reply{Did: api.DidIdle}
	case t != nil && t.job.Next() != job.Done:
		return m.work(k, t)
	case t != nil && t.mem != m.mems[0]:
		return api.Reply{Did: api.DidWait, Why: api.WaitTurn}
	case t != nil:
		e := api.Edit{Log: m.mems[1].log, Seq: m.roots.Seq, In: t.job.Out()}
		for _, x := range t.mem.entries {
			e.Seq = max(e.Seq, x.Seq)
		}
		return m.install(k, e, func() { m.mems = m.mems[1:] }, m.remove(nameOf("l", t.mem.log)))
	}
	for _, f := range m.frozen() {
		taken := false
		for _, other := range m.tasks {
			taken = taken || other.mem == f
		}
		if taken {
			continue
		}
		if len(m.levels.levels[0]) >= m.c.L0Stop {
			return api.Reply{Did: api.DidWait, Why: api.WaitStop}
		}
		again := mem.New(nil)
		for _, e := range f.entries {
			again.Add(e.Seq, []api.Write{{Key: e.Key, Del: e.Del, Val: e.Val}})
		}
		m.tasks[k] = &modelTask{mem: f, job: job.Flush(m.c, m.d, again)}
		return api.Reply{Did: api.DidClaim}
	}
	return api.Reply{Did: api.DidIdle}
}

// whole tells the edit of the present version.
func (m *model) whole(next uint64) api.Edit {
	e := api.Edit{Log: m.roots.Log, Next: next, Seq: m.roots.Seq, Pointers: m.pointers}
	for level, l := range m.levels.levels {
		for _, t := range l {
			e.In = append(e.In, api.Placed{Level: level, Table: t})
		}
	}
	return e
}

// install is the last step of a worker: a roll, or its edit; then comes what is done with it, and then the calls behind it.
func (m *model) install(k int, e api.Edit, then func(), behind ...func() api.Errno) api.Reply {
	old := nameOf("m", m.roots.Manifest)
	size := m.size(old)
	if size >= m.c.MaxManifest+2*len(manifest.Bytes(0, m.whole(m.roots.Next))) {
		return m.roll(old)
	}
	e.Next = m.counter
	if e.Pointers == nil {
		e.Pointers = m.pointers
	}
	if r, ok := m.calls(m.lay(old, manifest.Bytes(size, e)), m.sync(old)); !ok {
		return r
	}
	before := m.levels
	next := make([][]api.Table, m.c.Levels)
	for level, l := range before.levels {
		for _, t := range l {
			if !slices.Contains(e.Out, api.Place{Level: level, Number: t.Number}) {
				next[level] = append(next[level], t)
			}
		}
	}
	for _, p := range e.In {
		next[p.Level] = append(next[p.Level], p.Table)
	}
	for _, l := range next[1:] {
		slices.SortFunc(l, func(a, b api.Table) int { return strings.Compare(a.Least, b.Least) })
	}
	m.levels = &modelVersion{next}
	m.pointers = e.Pointers
	m.roots.Log, m.roots.Next, m.roots.Seq = e.Log, e.Next, e.Seq
	then()
	delete(m.tasks, k)
	if r, ok := m.calls(append(behind, m.deletes(before)...)...); !ok {
		return r
	}
	return api.Reply{Did: api.DidInstall}
}

func (m *model) roll(old string) api.Reply {
	number := m.counter
	name := m.file("m")
	l := []func() api.Errno{m.create(name), m.lay(name, manifest.Bytes(0, m.whole(m.counter))), m.sync(name), m.d.SyncDir}
	if _, err := m.d.Read("new"); err == api.OK {
		l = append(l, m.remove("new"))
	}
	l = append(l, m.create("new"), m.lay("new", manifest.Current(name)), m.sync("new"), func() api.Errno { return m.d.Rename("new", "current") }, m.d.SyncDir, m.remove(old))
	if r, ok := m.calls(l...); !ok {
		return r
	}
	m.roots.Manifest, m.roots.Next = number, m.counter
	return api.Reply{Did: api.DidRoll}
}

func (m *model) compactor(k int) api.Reply {
	t := m.tasks[k]
	switch {
	case m.readOnly:
		return api.Reply{Did: api.DidIdle}
	case t == nil:
		return m.claim(k)
	case t.job != nil && t.job.Next() != job.Done:
		return m.work(k, t)
	}
	level := t.pick.Level
	e := api.Edit{Log: m.mems[0].log, Seq: m.roots.Seq, Pointers: slices.Clone(m.pointers)}
	for _, x := range t.pick.Upper {
		e.Out = append(e.Out, api.Place{Level: level, Number: x.Number})
	}
	for _, x := range t.pick.Lower {
		e.Out = append(e.Out, api.Place{Level: level + 1, Number: x.Number})
	}
	switch {
	case t.pick.Move:
		e.In = []api.Placed{{Level: level + 1, Table: t.pick.Upper[0]}}
		e.Pointers[level] = t.pick.Upper[0].Greatest
	case level > 0:
		e.In = t.job.Out()
		e.Pointers[level] = t.job.Pointer()
	default:
		e.In = t.job.Out()
	}
	return m.install(k, e, func() {})
}

func (m *model) claim(k int) api.Reply {
	set := version.New(m.c.Levels)
	set.Apply(m.whole(0))
	var locked []uint64
	for _, t := range m.tasks {
		for _, x := range slices.Concat(t.pick.Upper, t.pick.Lower) {
			locked = append(locked, x.Number)
		}
	}
	picked, found := pick.Next(m.c, set.Current(), m.pointers, locked)
	switch found {
	case pick.None:
		return api.Reply{Did: api.DidIdle}
	case pick.Blocked:
		return api.Reply{Did: api.DidWait, Why: api.WaitLocks}
	}
	t := &modelTask{pick: picked}
	m.tasks[k] = t
	if picked.Move {
		return api.Reply{Did: api.DidClaim}
	}
	opened := map[uint64]*table.Table{}
	for _, x := range slices.Concat(picked.Upper, picked.Lower) {
		b, _ := m.d.Read(nameOf("t", x.Number))
		opened[x.Number], _ = table.Open(b)
	}
	then := m.levels.levels
	t.job = job.Compact(m.c, m.d, picked, func(n uint64) *table.Table { return opened[n] }, func(key string) bool {
		for level := picked.Level + 2; level < len(then); level++ {
			for _, x := range then[level] {
				if x.Least <= key && key <= x.Greatest {
					return true
				}
			}
		}
		return false
	})
	return api.Reply{Did: api.DidClaim}
}

func (m *model) status() api.Status {
	if !m.up {
		return api.Status{Clock: m.clock}
	}
	x := api.Status{Up: true, ReadOnly: m.readOnly, Clock: m.clock, Seq: m.seq, Load: m.load(), Debt: m.debt(), Pending: m.pending(),
		Tokens: m.tokens, Slow: m.slow, Active: m.active().weight(), Frozen: len(m.frozen()), Snapshots: len(m.snaps), Pins: len(m.held) - len(m.snaps),
		Line: m.line, Queue: m.queue, TokenLine: m.tokenLine}
	for _, k := range slices.Sorted(maps.Keys(m.tasks)) {
		j := m.tasks[k].pick
		if m.tasks[k].mem != nil {
			j = api.Job{Level: -1}
		}
		x.Jobs = append(x.Jobs, j)
	}
	return x
}

func (m *model) told() [][]api.Table {
	if !m.up {
		return nil
	}
	return m.levels.levels
}
