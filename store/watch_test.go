package store

import (
	"bytes"
	"fmt"
	"maps"
	"slices"
	"strings"

	"scree/api"
	"scree/ikey"
	"scree/log"
	"scree/manifest"
	"scree/pace"
)

// watch looks at a store from outside, by its replies, and holds it to the document's promises about the whole.
type watch struct {
	c       api.Config
	fallen  bool // a fall has been
	faulted bool // a fault has been met
	watchLife
	found   []map[string]string // the maps that the coming up under way may show; none: it is an empty store's
	flow    int                 // bytes that compactors wrote less those that the ticks allow, since the beginning
	ebb     int                 // the least of that so far
	opening int                 // steps of the coming up under way
	bound   int                 // how many it may take
	room    int                 // of the disk; 0: it has no end
	lacks   bool                // there may not be room enough for the coming up
}

type watchLife struct {
	past    map[string][]change // by key what the commit order did to it
	order   [][]api.Write       // the commit order of this life
	sure    int                 // so many of them stay
	led     []int               // a group
	synced  bool                // its log was made sure
	failed  []int               // the group that met the fault
	hanging [][]api.Write       // batches of a group whose Append was called, and that isn't published
	ops     map[int]*watched
	snaps   map[int]seen
	told    map[int][]api.Errno // what clients may be told, in read-only
	files   []api.File          // then
}

// change: a key's value from a place of the order on.
type change struct {
	at  int
	val string
	del bool
}

// seen: what a read sees, and how much it goes through.
type seen struct {
	at     int
	tables int // of level 0
	weight int
}

type watched struct {
	api.Op
	seen
	begun, published bool
	steps            int
}

func newWatch(c api.Config, room int) *watch {
	return &watch{c: c, room: room, watchLife: newWatchLife(nil)}
}

func newWatchLife(base map[string]string) watchLife {
	w := watchLife{past: map[string][]change{}, ops: map[int]*watched{}, snaps: map[int]seen{}}
	for key, val := range base {
		w.past[key] = []change{{val: val}}
	}
	return w
}

// at tells a key's value at a place of the order.
func (w *watchLife) at(key string, place int) (string, bool) {
	val, ok := "", false
	for _, x := range w.past[key] {
		if x.at <= place {
			val, ok = x.val, !x.del
		}
	}
	return val, ok
}

// whole tells the map at a place of the order.
func (w *watchLife) whole(place int) map[string]string {
	m := map[string]string{}
	for key := range w.past {
		if val, ok := w.at(key, place); ok {
			m[key] = val
		}
	}
	return m
}

func (w *watchLife) publish(batch []api.Write) {
	w.order = append(w.order, batch)
	for _, x := range batch {
		now := change{at: len(w.order), val: x.Val}
		if x.Del {
			now = change{at: len(w.order), del: true}
		}
		w.past[x.Key] = append(w.past[x.Key], now)
	}
}

// see looks at a step; it tells what is wrong.
func (w *watch) see(p *play, x api.Step, r api.Reply, before, after api.Status) string {
	client := x.Kind == api.StepMachine && x.A >= 0 && x.A < w.c.Clients
	worker := x.Kind == api.StepMachine && x.A >= w.c.Clients && x.A < p.opener()
	wrong := ""
	switch {
	case x.Kind == api.StepFall:
		w.fall(before.Up)
	case x.Kind == api.StepSubmit && r.Did == api.DidTake:
		w.ops[x.A] = &watched{Op: x.Op}
		if x.Op.Kind == api.OpSync {
			w.ops[x.A].Writes = nil
		}
	case x.Kind == api.StepMachine && x.A == p.opener() && !before.Up:
		wrong = w.open(p, r)
	case client && before.Up:
		wrong = w.client(p, x.A, r, before, after)
	case worker && r.Did == api.DidWrite && x.A >= w.c.Clients+w.c.Flushers:
		w.flow += r.Wrote
	case x.Kind == api.StepTick:
		w.flow -= w.c.Rate
	}
	w.ebb = min(w.ebb, w.flow)
	// A life begins with a full bucket: the promise is one about scripts without falls.
	if w.flow-w.ebb > w.c.Burst+w.c.MaxChunk && !w.fallen {
		return fmt.Sprintf("P22.6: %d bytes above the ticks, of %d and %d", w.flow-w.ebb, w.c.Burst, w.c.MaxChunk)
	}
	if before.Up && !after.Up && x.Kind != api.StepFall {
		w.fall(true)
	}
	if wrong == "" && after.Up {
		wrong = w.shape(p, r, before, after)
	}
	if wrong == "" && after.ReadOnly {
		wrong = w.readOnly(p, x, r, before)
	}
	return wrong
}

// fall puts down what a coming up may show.
func (w *watch) fall(up bool) {
	w.fallen = true
	w.opening = 0
	if !up {
		return
	}
	w.found = nil
	for place := w.sure; place <= len(w.order); place++ {
		w.found = append(w.found, w.whole(place))
	}
	if w.hanging != nil {
		for _, batch := range w.hanging {
			w.publish(batch)
		}
		w.found = append(w.found, w.whole(len(w.order)))
	}
	w.watchLife = newWatchLife(nil)
}

// open looks at a step of the opener.
func (w *watch) open(p *play, r api.Reply) string {
	if w.opening == 0 {
		// Its first step only reads.
		w.foresee(p.s.Files())
	}
	w.opening++
	switch r.Did {
	case api.DidFall:
		w.fall(false)
	case api.DidRefused:
		w.opening = 0
		// A coming up that was refused may have made tables of logs, and left them: the next one deletes them first.
		if r.Err != api.ErrDiskFault && !(r.Err == api.ErrDiskFull && w.lacks) {
			return fmt.Sprintf("P22.10: the opener answered error %d", r.Err)
		}
	case api.DidUp:
		if w.opening > w.bound {
			return fmt.Sprintf("P22.13: the opener took %d steps, of %d", w.opening, w.bound)
		}
		w.opening = 0
		base := p.shown()
		if len(w.found) == 0 {
			w.found = []map[string]string{{}}
		}
		if !slices.ContainsFunc(w.found, func(m map[string]string) bool { return maps.Equal(m, base) }) {
			return fmt.Sprintf("P22.2: the map %v isn't one of the %d that may be", base, len(w.found))
		}
		w.found = []map[string]string{base}
		w.watchLife = newWatchLife(base)
	}
	return ""
}

// shown tells the map, by Scans of another store over the same files: nothing of this one changes by that.
func (p *play) shown() map[string]string {
	p.t.Helper()
	s, err := New(p.c, 0, p.s.Files(), nil)
	if err != api.OK {
		p.fail("P19.1: New: error %d", err)
	}
	for s.Do(p.opener()).Did != api.DidUp {
	}
	return scanned(s, p.c)
}

// scanned tells a store's map by Scans of its client 0.
func scanned(s *Store, c api.Config) map[string]string {
	m := map[string]string{}
	for from := ""; ; {
		s.Submit(0, api.Op{Kind: api.OpScan, Key: from, N: c.ScanLimit})
		r := s.Do(0)
		for r.Did != api.DidDone {
			r = s.Do(0)
		}
		for _, pair := range r.Pairs {
			m[pair.Key] = pair.Val
			from = above(pair.Key)
		}
		if len(r.Pairs) < c.ScanLimit || from == "" {
			return m
		}
	}
}

// above tells the least key above one; none, if there is none.
func above(key string) string {
	if len(key) < api.MaxKey {
		return key + "\x00"
	}
	key = strings.TrimRight(key, "\xff")
	if key == "" {
		return ""
	}
	return key[:len(key)-1] + string([]byte{key[len(key)-1] + 1})
}

// client looks at a step of a client.
func (w *watch) client(p *play, k int, r api.Reply, before, after api.Status) string {
	o := w.ops[k]
	if o == nil {
		if r.Did != api.DidIdle {
			return fmt.Sprintf("a client without an operation: %s", word(r))
		}
		return ""
	}
	o.steps++
	switch o.Kind {
	case api.OpWrite, api.OpSync:
		return w.write(k, o, r, before, after)
	}
	return w.read(p, k, o, r, before)
}

// write looks at a step of a client that has a write or a Sync.
func (w *watch) write(k int, o *watched, r api.Reply, before, after api.Status) string {
	leads := len(w.led) > 0 && w.led[0] == k
	switch r.Did {
	case api.DidLead:
		w.led, w.synced = w.group(k, before.Queue), false
	case api.DidAppend:
		w.hanging = w.batches()
	case api.DidReadOnly, api.DidFall:
		// A full memtable is switched first.
		if leads && w.hanging == nil && before.Active < w.c.MemBytes {
			w.hanging = w.batches()
		}
		w.failed, w.led = w.led, nil
	case api.DidSync:
		w.sure, w.synced = len(w.order), true
	case api.DidPublish:
		if gone := minus(before.Queue, after.Queue); !slices.Equal(gone, w.led) {
			return fmt.Sprintf("the group %v was published, led were %v", gone, w.led)
		}
		for _, who := range w.led {
			m := w.ops[who]
			m.published = true
			if len(m.Writes) > 0 {
				w.publish(m.Writes)
				if m.Sync {
					w.sure = len(w.order)
				}
			}
		}
		w.led, w.hanging = nil, nil
	case api.DidDone:
		if o.published != (r.Err == api.OK) {
			return fmt.Sprintf("P22.1: a batch told error %d, published %v", r.Err, o.published)
		}
		if may, ok := w.told[k]; ok && !slices.Contains(may, r.Err) {
			return fmt.Sprintf("P22.10: error %d, may be %v", r.Err, may)
		}
		if leads {
			w.led = nil
		}
		delete(w.ops, k)
		delete(w.told, k)
	}
	return ""
}

// group tells who is led, by the queue.
func (w *watch) group(k int, queue []int) []int {
	var l []int
	weight := 0
	for _, who := range queue {
		weight += ikey.BatchWeight(w.ops[who].Writes)
		if who != k && weight > max(w.c.MaxGroup, ikey.BatchWeight(w.ops[k].Writes)) {
			break
		}
		l = append(l, who)
	}
	return l
}

// batches tells those of the group.
func (w *watch) batches() [][]api.Write {
	var l [][]api.Write
	for _, who := range w.led {
		if len(w.ops[who].Writes) > 0 {
			l = append(l, w.ops[who].Writes)
		}
	}
	return l
}

func minus(l, k []int) []int {
	return slices.DeleteFunc(slices.Clone(l), func(x int) bool { return slices.Contains(k, x) })
}

// now tells what a read sees that begins.
func (w *watch) now(p *play) seen {
	levels := p.s.Levels()
	x := p.s.Status()
	last := 0
	for _, t := range levels[len(levels)-1] {
		last += t.Weight
	}
	return seen{at: len(w.order), tables: len(levels[0]), weight: x.Load + last}
}

// read looks at a step of a client that reads.
func (w *watch) read(p *play, k int, o *watched, r api.Reply, before api.Status) string {
	if !o.begun {
		o.begun = true
		if o.Snap == 0 || o.Kind == api.OpSnap {
			// Neither a pin nor the end of one changes what is seen; but a store that fell shows nothing any more.
			if p.s.Status().Up {
				o.seen = w.now(p)
			}
			o.seen.at = len(w.order)
		} else {
			o.seen = w.snaps[o.Snap]
		}
	}
	_, out := w.snaps[o.Snap]
	if most := w.most(o); o.steps > most {
		return fmt.Sprintf("P22.8: %d steps of %d: %+v", o.steps, most, o)
	}
	if r.Did != api.DidDone {
		if r.Did != api.DidPin && r.Did != api.DidLook {
			return fmt.Sprintf("P22.8: a read answered %s", word(r))
		}
		return ""
	}
	delete(w.ops, k)
	switch {
	case o.Kind == api.OpSnap && r.Err == api.OK:
		w.snaps[r.Snap] = o.seen
	case o.Kind == api.OpSnap && before.Snapshots != w.c.Snapshots:
		return fmt.Sprintf("P19.12: error %d with %d snapshots", r.Err, before.Snapshots)
	case o.Kind == api.OpSnap:
	case r.Err != api.OK:
		if r.Err != api.ErrSnap || out || o.steps > 1 {
			return fmt.Sprintf("P22.1: a read told error %d", r.Err)
		}
	case o.Kind == api.OpRelease:
		delete(w.snaps, o.Snap)
	case o.Kind == api.OpGet:
		if val, ok := w.at(o.Key, o.at); ok != r.Found || val != r.Val {
			return fmt.Sprintf("P22.1: Get %q: %v %.20q, want %v %.20q", o.Key, r.Found, r.Val, ok, val)
		}
	case o.Kind == api.OpScan:
		if want := w.ranged(o); !slices.Equal(r.Pairs, want) {
			return fmt.Sprintf("P22.1: Scan %q to %q, %d: %.200q, want %.200q", o.Key, o.To, o.N, r.Pairs, want)
		}
	}
	return ""
}

// most tells how many steps a read may take.
func (w *watch) most(o *watched) int {
	switch o.Kind {
	case api.OpGet:
		return 3 + o.tables + w.c.Levels
	case api.OpScan:
		return 3 + o.weight/w.c.MaxChunk
	}
	return 1
}

// ranged tells what a Scan has to answer.
func (w *watch) ranged(o *watched) []api.Pair {
	var l []api.Pair
	for _, key := range slices.Sorted(maps.Keys(w.past)) {
		val, ok := w.at(key, o.at)
		if ok && key >= o.Key && (o.To == "" || key < o.To) && len(l) < o.N {
			l = append(l, api.Pair{Key: key, Val: val})
		}
	}
	return l
}

// shape holds a store that is up to P22.7, and, without falls and faults, to P22.5.
func (w *watch) shape(p *play, r api.Reply, before, after api.Status) string {
	levels := p.s.Levels()
	most := w.c.L0Stop - 1 + w.c.Flushers
	if w.fallen {
		most = w.c.L0Stop + w.c.Flushers + w.c.MaxImm
	}
	switch {
	case len(levels[0]) > most:
		return fmt.Sprintf("P22.7: %d tables in level 0, of %d", len(levels[0]), most)
	case after.Frozen > w.c.MaxImm:
		return fmt.Sprintf("P22.7: %d memtables are frozen", after.Frozen)
	case after.Pending > w.c.MaxDebt:
		return fmt.Sprintf("P22.7: Pending %d", after.Pending)
	case after.Debt > pace.DebtCap(w.c) && !w.fallen:
		return fmt.Sprintf("P22.7: Debt %d", after.Debt)
	case after.Active > pace.MemCap(w.c):
		return fmt.Sprintf("P22.7: a memtable weighs %d", after.Active)
	case before.Up && after.Load > before.Load && r.Did != api.DidInsert:
		return fmt.Sprintf("P22.7: Load rises from %d to %d by %s", before.Load, after.Load, word(r))
	}
	inputs := map[uint64]int{}
	for _, j := range after.Jobs {
		for _, t := range slices.Concat(j.Upper, j.Lower) {
			inputs[t.Number]++
			if inputs[t.Number] > 1 {
				return fmt.Sprintf("P22.7: two jobs have the table %d", t.Number)
			}
		}
	}
	for _, l := range levels[1:] {
		for i, t := range l {
			if t.Weight > pace.FileCap(w.c) {
				return fmt.Sprintf("P22.7: a table weighs %d", t.Weight)
			}
			if i > 0 && l[i-1].Greatest >= t.Least {
				return fmt.Sprintf("P22.7: a level doesn't rise: %v", l)
			}
		}
	}
	if !w.fallen && !w.faulted && !after.ReadOnly && slices.Contains(lays, r.Did) {
		return w.holdRoom(p)
	}
	return ""
}

// lays: the replies behind which there may be more bytes than ahead of them.
var lays = []int{api.DidAppend, api.DidWrite, api.DidRoll, api.DidInstall, api.DidSwitch}

// holdRoom holds the bytes of all files to their bound.
func (w *watch) holdRoom(p *play) string {
	x := 0
	for key := range w.past {
		if val, ok := w.at(key, len(w.order)); ok {
			x += 2*len(key) + len(val) + api.EntryCharge
		}
	}
	current := p.m.levels.numbers()
	held := map[uint64]int{}
	for _, v := range p.m.held {
		for _, t := range slices.Concat(v.tables.levels...) {
			if !slices.Contains(current, t.Number) {
				held[t.Number] = t.Weight
			}
		}
	}
	y := 0
	for _, weight := range held {
		y += weight
	}
	all := 0
	for _, f := range p.m.d.Files() {
		all += len(f.Data)
	}
	if most := pace.Room(w.c, x, y); all > most {
		return fmt.Sprintf("P22.5: %d bytes of %d", all, most)
	}
	return ""
}

// readOnly holds a store that met a fault to P22.10.
func (w *watch) readOnly(p *play, x api.Step, r api.Reply, before api.Status) string {
	files := p.s.Files()
	if !before.ReadOnly {
		w.faulted = true
		w.told = map[int][]api.Errno{}
		for k := range w.ops {
			w.told[k] = w.mayBeTold(k)
		}
		w.files = files
		return ""
	}
	if x.Kind == api.StepSubmit && r.Did == api.DidTake {
		w.told[x.A] = []api.Errno{api.ErrReadOnly}
	}
	unpins := x.Kind == api.StepMachine && r.Did == api.DidDone
	was := w.files
	w.files = files
	for _, f := range was {
		if len(files) > 0 && files[0].Name == f.Name {
			if !bytes.Equal(files[0].Data, f.Data) || files[0].Sure != f.Sure {
				return fmt.Sprintf("P22.10: %s was changed by %s", f.Name, word(r))
			}
			files = files[1:]
		} else if !unpins || f.Name[:2] != "t-" {
			return fmt.Sprintf("P22.10: %s was deleted by %s", f.Name, word(r))
		}
	}
	if len(files) > 0 {
		return fmt.Sprintf("P22.10: %s was made by %s", files[0].Name, word(r))
	}
	return ""
}

// mayBeTold tells what a client may be told whose operation is under way when the store becomes read-only.
func (w *watch) mayBeTold(k int) []api.Errno {
	o := w.ops[k]
	wanted := false
	for _, who := range w.led {
		wanted = wanted || w.ops[who].Sync || len(w.ops[who].Writes) == 0
	}
	switch {
	case o.published:
		return []api.Errno{api.OK}
	case slices.Contains(w.failed, k):
		return []api.Errno{api.ErrWrite}
	case slices.Contains(w.led, k) && w.hanging != nil && w.synced:
		return []api.Errno{api.OK}
	case slices.Contains(w.led, k) && w.hanging != nil && wanted:
		return []api.Errno{api.ErrReadOnly}
	case slices.Contains(w.led, k) && w.hanging != nil:
		return []api.Errno{api.OK}
	case o.Kind == api.OpWrite || o.Kind == api.OpSync:
		return []api.Errno{api.ErrReadOnly}
	}
	return []api.Errno{api.OK, api.ErrSnap, api.ErrSnaps}
}

// logWeight tells what the entries of a log weigh.
func logWeight(b []byte) int {
	sum := 0
	recs, _, _ := log.Read(b)
	for _, rec := range recs {
		_, batches, _ := log.Get(rec)
		for _, batch := range batches {
			sum += ikey.BatchWeight(batch)
		}
	}
	return sum
}

// foresee tells how many steps a coming up over files may take, and whether it may lack room.
func (w *watch) foresee(files []api.File) {
	names, logs, heavy, all, used, whole := 0, 0, 0, 0, 0, 0
	least := ""
	for _, f := range files {
		used += len(f.Data)
		_, _, ok := manifest.Number(f.Name)
		if ok || f.Name == "current" || f.Name == "new" {
			names++
		}
		if f.Name == "current" {
			name, _ := manifest.Points(f.Data)
			at := slices.IndexFunc(files, func(f api.File) bool { return f.Name == name })
			set, roots, _ := manifest.Read(files[at].Data, w.c.Levels)
			least = nameOf("l", roots.Log)
			whole = len(manifest.Bytes(0, manifest.Whole(set, roots)))
		}
	}
	for _, f := range files {
		if strings.HasPrefix(f.Name, "l-") && least != "" && f.Name >= least {
			logs++
			heavy = max(heavy, logWeight(f.Data))
			all += logWeight(f.Data)
		}
	}
	w.bound = 2*names + logs*pace.TF(w.c, heavy) + 16
	w.lacks = w.room != 0 && w.room-used < all+whole+4096
}
