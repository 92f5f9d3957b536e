package disk

import (
	"maps"
	"math"
	"math/rand"
	"slices"
	"strconv"
	"testing"

	"scree/api"
)

// paper: a file of the model.
type paper struct {
	text string
	sure int
}

// model: a disk as the chapter tells it, the plainest way: the directory that is sure, and what was done to it since, done anew whenever it is asked.
type model struct {
	room         int
	sure         map[string]*paper
	done         []func(map[string]*paper)
	down         bool
	armed        bool
	units        int
	after, calls int
	part         int
}

func (m *model) dir(n int) map[string]*paper {
	l := maps.Clone(m.sure)
	for i, do := range m.done {
		if i < n {
			do(l)
		}
	}
	return l
}

func (m *model) now() map[string]*paper { return m.dir(len(m.done)) }

func (m *model) files() []api.File {
	var told []api.File
	now := m.now()
	for _, name := range slices.Sorted(maps.Keys(now)) {
		told = append(told, api.File{Name: name, Data: []byte(now[name].text), Sure: now[name].sure})
	}
	return told
}

func (m *model) image(dir int, keep []int) []api.File {
	var told []api.File
	then := m.dir(dir)
	for i, name := range slices.Sorted(maps.Keys(then)) {
		f := then[name]
		n := f.sure
		for k := 0; len(keep) > 0 && k < keep[i%len(keep)] && n < len(f.text); k++ {
			n++
		}
		told = append(told, api.File{Name: name, Data: []byte(f.text[:n]), Sure: n})
	}
	return told
}

func (m *model) fall(dir int, keep []int) {
	left := m.image(dir, keep)
	*m = model{room: m.room, sure: map[string]*paper{}}
	for _, f := range left {
		m.sure[f.Name] = &paper{string(f.Data), f.Sure}
	}
}

// full tells whether place 5 refuses these bytes.
func (m *model) full(b string) bool {
	sum := len(b)
	for _, f := range m.now() {
		sum += len(f.text)
	}
	return m.room != 0 && sum > m.room
}

// rigged: place 3.
func (m *model) rigged() bool {
	switch {
	case m.after > 0:
		m.after--
	case m.calls > 0:
		m.calls--
		return true
	}
	return false
}

// falls: place 6, unit by unit: how many were paid for, and whether the machine fell.
func (m *model) falls(cost int) (int, bool) {
	for paid := range cost {
		if m.armed {
			if m.units--; m.units == 0 {
				m.down, m.armed, m.calls, m.after = true, false, 0, 0
				return paid, true
			}
		}
	}
	return cost, false
}

func rightName(s string) bool {
	right := len(s) >= 1 && len(s) <= 24
	for _, c := range []byte(s) {
		right = right && (c == '-' || c >= '0' && c <= '9' || c >= 'a' && c <= 'z')
	}
	return right
}

const (
	doCreate = iota
	doAppend
	doSync
	doRename
	doDelete
	doSyncDir
	doKinds
)

// call does a changing call on the model.
func (m *model) call(kind int, name, to, b string) api.Errno {
	switch {
	case m.down:
		return api.ErrDiskDown
	case kind != doSyncDir && !rightName(name), kind == doRename && !rightName(to):
		return api.ErrDiskName
	}
	f := m.now()[name]
	if m.rigged() {
		if part := b[:min(m.part, len(b))]; kind == doAppend && f != nil && !m.full(part) {
			f.text += part
		}
		return api.ErrDiskFault
	}
	cost := 1
	switch {
	case kind == doCreate && f != nil:
		return api.ErrDiskTwice
	case kind != doCreate && kind != doSyncDir && f == nil:
		return api.ErrDiskNone
	case kind == doAppend && m.full(b):
		return api.ErrDiskFull
	case kind == doAppend:
		cost += len(b)
	}
	if paid, fell := m.falls(cost); fell {
		if kind == doAppend {
			f.text += b[:paid]
		}
		return api.ErrDiskDown
	}
	m.finish(kind, name, to, b)
	return api.OK
}

func (m *model) finish(kind int, name, to, b string) {
	f := m.now()[name]
	switch kind {
	case doCreate:
		fresh := &paper{}
		m.done = append(m.done, func(l map[string]*paper) { l[name] = fresh })
	case doAppend:
		f.text += b
	case doSync:
		f.sure = len(f.text)
	case doRename:
		if name != to {
			m.done = append(m.done, func(l map[string]*paper) { l[to] = l[name]; delete(l, name) })
		}
	case doDelete:
		m.done = append(m.done, func(l map[string]*paper) { delete(l, name) })
	case doSyncDir:
		m.sure, m.done = m.now(), nil
	}
}

// call does a changing call on the disk.
func (d *Disk) call(kind int, name, to, b string) api.Errno {
	switch kind {
	case doCreate:
		return d.Create(name)
	case doAppend:
		return d.Append(name, []byte(b))
	case doSync:
		return d.Sync(name)
	case doRename:
		return d.Rename(name, to)
	case doDelete:
		return d.Delete(name)
	}
	return d.SyncDir()
}

func oneOf[T any](r *rand.Rand, l ...T) T { return l[r.Intn(len(l))] }

func someName(r *rand.Rand) string {
	return oneOf(r, "a", "a", "a", "b", "b", "b", "c", "c", "d", "-", "", "B")
}

func someKeep(r *rand.Rand) []int {
	keep := make([]int, r.Intn(4))
	for i := range keep {
		keep[i] = oneOf(r, 0, 1, 2, 3, 5, -1, math.MaxInt, math.MinInt)
	}
	return keep
}

// both steps a disk and its model, and tells what was done and whether they answered alike.
func both(r *rand.Rand, d *Disk, m *model) (string, bool) {
	switch n := r.Intn(60); {
	case n == 0:
		units := oneOf(r, 1, 2, 3, 4, 7, 12, 0, -1, math.MaxInt, math.MinInt)
		d.Arm(units)
		m.armed, m.units = units >= 1, units
		return "Arm " + strconv.Itoa(units), true
	case n == 1:
		after, calls, part := oneOf(r, 0, 1, 2, 5, -1), oneOf(r, 0, 1, 2, -1), oneOf(r, 0, 1, 2, 3, -1, math.MaxInt)
		d.Fail(after, calls, part)
		m.after, m.calls, m.part = max(after, 0), max(calls, 0), max(part, 0)
		return "Fail", true
	case n == 2, n < 10 && m.down:
		dir, keep := oneOf(r, 0, 1, 2, 3, 5, 99, -1), someKeep(r)
		d.Fall(dir, keep)
		m.fall(dir, keep)
		return "Fall", true
	}
	kind, name, to := r.Intn(doKinds), someName(r), someName(r)
	if r.Intn(3) == 0 {
		kind = doAppend
	}
	b := "0123456789"[:r.Intn(6)]
	got, want := d.call(kind, name, to, b), m.call(kind, name, to, b)
	return "call " + strconv.Itoa(kind) + " " + name + " " + to + " " + b + ": " + strconv.Itoa(int(got)) + ", " + strconv.Itoa(int(want)), got == want
}

// alike tells whether all that can be asked of a disk is as the model says.
func alike(r *rand.Rand, d *Disk, m *model) bool {
	if d.Down() != m.down || tell(d.Files()) != tell(m.files()) {
		return false
	}
	for dir := -1; dir < len(m.done)+2; dir++ {
		keep := someKeep(r)
		if tell(d.Image(dir, keep)) != tell(m.image(dir, keep)) {
			return false
		}
	}
	name := someName(r)
	b, err := d.Read(name)
	f := m.now()[name]
	switch {
	case m.down:
		return err == api.ErrDiskDown && b == nil
	case !rightName(name):
		return err == api.ErrDiskName && b == nil
	case f == nil:
		return err == api.ErrDiskNone && b == nil
	}
	return err == api.OK && string(b) == f.text
}

func TestAgainstTheModel(t *testing.T) {
	for seed := range int64(2000) {
		r := rand.New(rand.NewSource(seed))
		room := oneOf(r, 0, 1, 5, 12, 20)
		d := made(t, room)
		m := &model{room: room, sure: map[string]*paper{}}
		for step := range 80 {
			did, same := both(r, d, m)
			if !same || !alike(r, d, m) {
				t.Fatalf("P3.2 to P3.11: seed %d, step %d, %s: %q, not %q", seed, step, did, tell(d.Files()), tell(m.files()))
			}
		}
	}
}
